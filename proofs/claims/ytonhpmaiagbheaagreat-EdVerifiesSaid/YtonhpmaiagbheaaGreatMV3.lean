/- Texts joined: what they are for stands ahead of each. -/
import Derived.Test.YtonhpmaiagbheaaGreatMV2
set_option linter.unusedSimpArgs false
set_option linter.unusedVariables false

namespace Go.Proofs.YtonhpmaiagbheaaGreat
open Go.RowKit Go.Deep
theorem litB_word (V j : Nat) : litB V (8 * (j + 1)) = litB V (8 * j) ++ litB (wd V j) 8 := by
 unfold litB
 rw [show 8 * (j + 1) = 8 * j + 8 by omega, List.range_add, List.map_append, List.map_map]
 congr 1
 refine List.map_congr_left fun i hi => ?_
 have hi8 : i < 8 := List.mem_range.1 hi
 show UInt8.ofNat (V / 2 ^ (8 * (8 * j + i))) = UInt8.ofNat (wd V j / 2 ^ (8 * i))
 have e1 : V / 2 ^ (8 * (8 * j + i)) = V / 18446744073709551616 ^ j / 2 ^ (8 * i) := by
   rw [show 8 * (8 * j + i) = 64 * j + 8 * i by omega, Nat.pow_add, Nat.pow_mul, ← Nat.div_div_eq_div_mul]
 rw [e1]
 apply UInt8.toNat_inj.1
 simp only [UInt8.toNat_ofNat']
 unfold wd
 generalize V / 18446744073709551616 ^ j = U
 have h8 : i = 0 ∨ i = 1 ∨ i = 2 ∨ i = 3 ∨ i = 4 ∨ i = 5 ∨ i = 6 ∨ i = 7 := by omega
 rcases h8 with rfl | rfl | rfl | rfl | rfl | rfl | rfl | rfl <;> omega
theorem run_make32 (w : World) : (Instr.makeSlice 22 (.int .i64 0) (.int .i64 32)).run Tryz.prog w = .ok (.slice (some ⟨w.heap.size, 0, none⟩) 0 32) (w.alloc (.cells (madeCells #[.int .u8 0] 32) 5)) := by kernel_rfl
theorem Owns.made (w : World) : Owns (w.alloc (.cells (madeCells #[.int .u8 0] 32) 5)) w.heap.size (.slice (some ⟨w.heap.size, 0, none⟩) 0 32) [] :=
 World.ownsRow_made w _ 32 (Nat.le_refl _) (by decide) (by simp [madeCells])
theorem Owns.past {w w' : World} {base : Nat} {v : Value} {l : List UInt8} (h : Owns w base v l) (hb : Below w.heap.size w w') : Owns w' base v l := by
 obtain ⟨h1, h2⟩ := h
 refine ⟨h1, ?_⟩
 rcases h2 with h2 | ⟨g, cap, cur, rfl, hbg, hg, h3⟩
 · exact .inl h2
 · exact .inr ⟨g, cap, cur, rfl, hbg, (hb.block g (Array.getElem?_eq_some_iff.1 hg).1).trans hg, h3⟩
set_option maxHeartbeats 1000000 in
theorem bytes_any (V : Nat) (w : World) : Calls Tryz.prog 63 #[.agg (arrOf 4 (ewF V))] w fun e w' => ∃ v, e = .returned v ∧ Owns w' w.heap.size v (litB V 32) ∧ Below w.heap.size w w' := by
 have hrA := (rowIs_arr w 4 (ewF V) 51).alloc (.cells (madeCells #[.int .u8 0] 32) 5)
 have hbel := ((Below.refl w.heap.size w).alloc (Nat.le_refl _) (.cells (arrOf 4 (ewF V)) 51)).alloc (by simp) (.cells (madeCells #[.int .u8 0] 32) 5)
 have hown := Owns.made (w.alloc (.cells (arrOf 4 (ewF V)) 51))
 have hsz : ((w.alloc (.cells (arrOf 4 (ewF V)) 51)).alloc (.cells (madeCells #[.int .u8 0] 32) 5)).heap.size = w.heap.size + 1 + 1 := by simp only [World.size_alloc]
 have hmk := run_make32
 rw [World.size_alloc] at hown
 go_enter Tryz.func63, Tryz.ntmps63
 go_wp2_with (refine wpList_load_arr rfl 46 (.tmp 7) rfl 4 arrW hrA rfl (by omega) ?_; simp only [Nat.zero_add])
 generalize ((w.alloc (.cells (arrOf 4 (ewF V)) 51)).alloc (.cells (madeCells #[.int .u8 0] 32) 5)) = w1 at *
 generalize hg0 : w.heap.size = g0 at *
 have HG := Lib.hid hg0
 clear hg0 hrA hmk
 go_loopw [3, 5, 9] (fun out _ ii wr => ∃ j : Nat, j ≤ 4 ∧ ii = .int .i64 j ∧ Owns wr (g0 + 1) out (litB V (8 * j)) ∧ Below g0 w wr ∧ g0 + 1 ≤ wr.heap.size) (fun _ _ ii _ => 4 - (intOf ii).toNat)
 case atStart => exact ⟨0, Nat.zero_le _, rfl, hown, hbel, by omega⟩
 case round =>
   clear hown hbel hsz
   obtain ⟨j, hj, rfl, hown, hbel, hge⟩ := hrel
   by_cases hlt : j < 4
   · have hjI : 0 ≤ (j : Int) ∧ (j : Int) < 4 := by omega
     obtain ⟨x, hx⟩ := nat_var (wd V j)
     have hxl := wd_lt V j
     rw [← hx] at hxl
     have HX := Lib.hid hx.symm
     have HXL := Lib.hid hxl
     have hll : (litB V (8 * j)).length = 8 * j := litB_length _ _
     have HW := Lib.hid (litB_word V j)
     clear hx hxl
     go_wp2_with (first
       | refine wpList_indexW rfl (.tmp 8) (.tmp 9) rfl (wd V) x HX.out rfl rfl hlt ?_
       | (go_at_call 69; refine (little64_any x _ HXL.out).mono ?_; rintro e w5 ⟨vb, rfl, hb5, hbl5⟩
          have hown5 := hown.past hbl5
          have hbel5 := hbel.trans (hbl5.mono (by rw [← HG.out]; exact hbel.size))
          have hge5 := Nat.le_trans hge hbl5.size
          clear hown hbel)
       | (refine wpList_app rfl (.tmp 12) (.tmp 14) rfl (g0 + 1) _ vb (litB V (8 * j)) (litB x 8) hown5 hb5 rfl rfl (by rw [hll, litB_length]; omega) hge5 ?_; intro v6 w6 hown6 hg6))
     have hbel6 : Below g0 w w6 := hbel5.grown hg6 (by rw [← HG.out]; exact hbel5.size) (fun k hk => Nat.le_of_succ_le (Owns.block hown5 k hk))
     have hge6 : g0 + 1 ≤ w6.heap.size := Nat.le_trans hge5 hg6.size
     have hown7 : Owns w6 (g0 + 1) v6 (litB V (8 * (j + 1))) := by rw [HW.out, HX.out]; exact hown6
     clear hown6 hown5 hbel5
     go_roundw
     case rel => exact ⟨j + 1, by omega, by go_num, hown7, hbel6, hge6⟩
     case measure => simp [intOf]; omega
   · obtain rfl : j = 4 := by omega
     go_wp2
     go_ret
     exact ⟨_, rfl, by rw [HG.out]; exact hown.lower (Nat.le_succ _), by rw [HG.out]; exact hbel⟩
theorem pow256_W (q : Nat) : (256 : Nat) ^ (8 * q) = 18446744073709551616 ^ q := by rw [Nat.pow_mul]
theorem of_step (V x i j : Nat) (hV : V < 256 ^ i) (hx : x < 256) : wd (V + x * 256 ^ i) j = if j = i / 8 then 2 ^ (8 * (i % 8)) * x + wd V (i / 8) else wd V j := by
 obtain ⟨q, hq⟩ := nat_var (i / 8)
 obtain ⟨s, hs⟩ := nat_var (i % 8)
 have hi : i = 8 * q + s := by omega
 have hs8 : s < 8 := by omega
 rw [← hq, ← hs]
 clear hq hs
 subst hi
 rw [Nat.pow_add, pow256_W] at hV ⊢
 have hsp : (256 : Nat) ^ s * 256 ≤ 18446744073709551616 := by
   have h := Nat.pow_le_pow_right (show 0 < 256 by decide) (show s + 1 ≤ 8 by omega)
   rw [Nat.pow_succ] at h
   exact Nat.le_trans h (by decide)
 have hsh : (2 : Nat) ^ (8 * s) = 256 ^ s := by rw [Nat.pow_mul]
 rw [hsh]
 have hsz : 0 < (256 : Nat) ^ s := Nat.pow_pos (by decide)
 generalize (256 : Nat) ^ s = Z at *
 have hxZ : x * Z ≤ 255 * Z := Nat.mul_le_mul_right _ (by omega)
 unfold wd
 by_cases h1 : j = q
 · subst h1
   rw [if_pos rfl, show x * (18446744073709551616 ^ j * Z) = 18446744073709551616 ^ j * (x * Z) by ac_rfl, Nat.add_mul_div_left _ _ (powW_pos j)]
   have h2 : V / 18446744073709551616 ^ j < Z := Nat.div_lt_of_lt_mul hV
   generalize V / 18446744073709551616 ^ j = y at *
   rw [Nat.mul_comm Z x]
   omega
 · rw [if_neg h1]
   by_cases h2 : j < q
   · obtain ⟨d, rfl⟩ : ∃ d, q = j + 1 + d := ⟨q - (j + 1), by omega⟩
     have e : x * (18446744073709551616 ^ (j + 1 + d) * Z) = 18446744073709551616 ^ j * (18446744073709551616 * (18446744073709551616 ^ d * (x * Z))) := by
       rw [Nat.pow_add, Nat.pow_succ]; ac_rfl
     rw [e, Nat.add_mul_div_left _ _ (powW_pos j), Nat.add_mul_mod_self_left]
   · obtain ⟨d, rfl⟩ : ∃ d, j = q + 1 + d := ⟨j - (q + 1), by omega⟩
     have hup : V + x * (18446744073709551616 ^ q * Z) < 18446744073709551616 ^ (q + 1 + d) := by
       have h3 : x * (18446744073709551616 ^ q * Z) ≤ 255 * (18446744073709551616 ^ q * Z) := Nat.mul_le_mul_right _ (by omega)
       have h4 : 18446744073709551616 ^ q * (Z * 256) ≤ 18446744073709551616 ^ q * 18446744073709551616 := Nat.mul_le_mul_left _ hsp
       rw [← Nat.pow_succ, ← Nat.mul_assoc] at h4
       have h5 : (18446744073709551616 : Nat) ^ (q + 1) ≤ 18446744073709551616 ^ (q + 1 + d) := Nat.pow_le_pow_right (by decide) (by omega)
       omega
     rw [Nat.div_eq_of_lt hup, Nat.div_eq_of_lt (Nat.lt_of_le_of_lt (Nat.le_add_right _ _) hup)]
theorem of_low (V i : Nat) (hV : V < 256 ^ i) : wd V (i / 8) < 2 ^ (8 * (i % 8)) := by
 obtain ⟨q, hq⟩ := nat_var (i / 8)
 obtain ⟨s, hs⟩ := nat_var (i % 8)
 have hi : i = 8 * q + s := by omega
 rw [← hq, ← hs]
 clear hq hs
 subst hi
 rw [Nat.pow_add, pow256_W] at hV
 rw [Nat.pow_mul]
 exact Nat.lt_of_le_of_lt (Nat.mod_le _ _) (Nat.div_lt_of_lt_mul hV)
theorem numL_wanting (l : List UInt8) (k : Nat) (h : l.length ≤ k) : ∀ d, numL l (k + d) = numL l k
 | 0 => rfl
 | d + 1 => by
   show numL l (k + d) + (l.getD (k + d) 0).toNat * 256 ^ (k + d) = _
   rw [numL_wanting l k h d, List.getD_eq_getElem?_getD, List.getElem?_eq_none (by omega)]
   simp
theorem numL_min (l : List UInt8) : numL l (min l.length 32) = numL l 32 := by
 by_cases h : l.length ≤ 32
 · rw [Nat.min_eq_left h]
   have := numL_wanting l l.length (Nat.le_refl _) (32 - l.length)
   rw [show l.length + (32 - l.length) = 32 by omega] at this
   exact this.symm
 · rw [Nat.min_eq_right (by omega)]
set_option maxHeartbeats 4000000 in
theorem of_any (v : Value) (l : List UInt8) (w : World) (hv : Bs w v l) : Calls Tryz.prog 56 #[v] w fun e w' => e = .returned (.agg (arrOf 4 (ewF (ofL l)))) ∧ Below w.heap.size w w' := by
 obtain ⟨a, n, cap, rfl, hn, hc1, hc2, hB0⟩ := hv.shape
 have hR := (rowIs_arr w 4 (u64f fun _ => 0) 51).alloc (.cells (arrOf 4 (u64f fun _ => 0)) 46)
 have hL := rowIs_arr (w.alloc (.cells (arrOf 4 (u64f fun _ => 0)) 51)) 4 (u64f fun _ => 0) 46
 have hbel := ((Below.refl w.heap.size w).alloc (Nat.le_refl _) (.cells (arrOf 4 (u64f fun _ => 0)) 51)).alloc (by simp) (.cells (arrOf 4 (u64f fun _ => 0)) 46)
 rw [World.size_alloc] at hL
 have HB := Lib.hid hB0
 have HN := Lib.hid hn
 obtain ⟨k, hk⟩ := nat_var (min n 32)
 have hkn : k ≤ n := by omega
 have hk32 : k ≤ 32 := by omega
 have HK : Hid ((k : Int) = if (32 : Int) < (n : Int) then 32 else (n : Int)) := Lib.hid (by split <;> omega)
 have hkI : (k : Int) ≤ (cap : Int) := by omega
 have HKN : Hid (numL l k = numL l 32) := Lib.hid (by rw [hk, ← hn]; exact numL_min l)
 clear hv hB0 hn hk
 go_enter Tryz.func56, Tryz.ntmps56
 go_wp2_with (first
   | refine wpList_alloc_arr rfl 51 rfl (arrOf 4 (u64f fun _ => 0)) zeroE ?_
   | (refine wpList_alloc_arr rfl 46 rfl (arrOf 4 (u64f fun _ => 0)) zeroW ?_; simp only [World.size_alloc])
   | (refine wpList_lesser rfl (.tmp 8) (.const (.int .i64 32)) rfl (m := (k : Int)) rfl rfl HK.out ?_))
 generalize ((w.alloc (.cells (arrOf 4 (u64f fun _ => 0)) 51)).alloc (.cells (arrOf 4 (u64f fun _ => 0)) 46)) = w2 at *
 generalize hg0 : w.heap.size = g0 at *
 generalize hg1 : g0 + 1 = g1 at *
 have n01 : g0 ≠ g1 := by omega
 have l1 : g0 ≤ g1 := by omega
 have HG := Lib.hid hg0
 have HGS : Hid (∀ wq : World, Below g0 w wq → g0 ≤ wq.heap.size) := Lib.hid fun wq h => by rw [← HG.out]; exact h.size
 clear hg0 hg1
 go_loopw [4, 5, 12] (fun _ _ ii wr => ∃ i : Nat, i ≤ k ∧ ii = .int .i64 i ∧ wr.rowIs g1 46 4 (ewF (numL l i)) ∧ wr.rowIs g0 51 4 (u64f fun _ => 0) ∧ Below g0 w wr) (fun _ _ ii _ => k - (intOf ii).toNat)
 case atStart => exact ⟨0, Nat.zero_le _, rfl, hL.congr fun j _ => by unfold ewF u64f; rw [show numL l 0 = 0 from rfl, wd_small 0 j (by decide)]; split <;> rfl, hR, hbel⟩
 case round =>
   clear hL hR hbel
   obtain ⟨i, hi, rfl, hL, hR, hbel⟩ := hrel
   by_cases hlt : i < k
   · have hiI : 0 ≤ (i : Int) ∧ (i : Int) < (k : Int) := by omega
     obtain ⟨b, off, cap', he, _, _, hbl, hc⟩ := HB.out.open_n HN.out (by omega)
     cases he
     have hil : i < l.length := by rw [HN.out]; omega
     have hci := hc i hil
     rw [← getD_at l i hil] at hci
     have hbw : b < g0 := by rw [← HG.out]; exact hbl
     obtain ⟨x, hx⟩ := nat_var (l.getD i 0).toNat
     have hx1 : x < 256 := by rw [hx]; exact UInt8.toNat_lt _
     rw [← hx] at hci
     have hcx := (hbel.cell (p := ⟨b, off + i, none⟩) hbw).trans hci
     obtain ⟨q, hq⟩ := nat_var (i / 8)
     obtain ⟨s, hs⟩ := nat_var (i % 8)
     obtain ⟨s8, hs8⟩ := nat_var (8 * (i % 8))
     have hV := numL_lt l i
     have hnext : numL l (i + 1) = numL l i + x * 256 ^ i := by rw [hx]; rfl
     have hlow := of_low _ _ hV
     have hstep := fun j => of_step (numL l i) x i j hV hx1
     rw [← hs8, ← hq] at hlow
     have hul := wd_lt (numL l i) q
     have hvl := wd_lt (numL l (i + 1)) q
     have hvq := hstep q
     rw [← hnext, if_pos hq, ← hs8, ← hq] at hvq
     obtain ⟨u, hu⟩ := nat_var (wd (numL l i) q)
     obtain ⟨v, hv⟩ := nat_var (wd (numL l (i + 1)) q)
     have hset : (wr.drew.setCell ⟨g1, q, none⟩ (.int .u64 (v : Int))).rowIs g1 46 4 (ewF (numL l (i + 1))) := row_set_drew hL q v _ (fun j hj => by
       have h := hstep j
       rw [← hnext, ← hs8, ← hq, ← hvq, ← hv] at h
       exact h)
     have hcD : wr.drew.cell? ⟨g1, q, none⟩ = some (.int .u64 (u : Int)) := by
       have h := hL.drew.cell (i := q) (by omega)
       rw [hu]; exact h
     have hfr := hL.drew.frozen q
     rw [← hu, ← hv] at hvq
     rw [← hu] at hlow hul
     rw [← hv] at hvl
     obtain ⟨xs, hxs⟩ := nat_var (2 ^ s8 * x)
     have hor := or_add64' s8 x u hlow (by omega)
     rw [← hvq, ← hxs] at hor
     have hxl : xs < 18446744073709551616 := by omega
     have hshl : IntKind.u64.wrap ((x : Int) * 2 ^ s8) = (xs : Int) := by
       have e : (x : Int) * 2 ^ s8 = (xs : Int) := by rw [hxs, Int.natCast_mul, Int.natCast_pow, Int.mul_comm]; rfl
       rw [e, wrap_nat _ hxl]
     have hquo : IntKind.i64.wrap ((i : Int).tdiv 8) = (q : Int) := by rw [Int.tdiv_eq_ediv_of_nonneg (by omega), IntWalk.i64_in _ (by omega)]; omega
     have hquo2 : IntKind.i64.wrap ((i : Int) / 8) = (q : Int) := by rw [IntWalk.i64_in _ (by omega)]; omega
     have hrem : IntKind.i64.wrap ((i : Int).tmod 8) = (s : Int) := by rw [Int.tmod_eq_emod_of_nonneg (by omega), IntWalk.i64_in _ (by omega)]; omega
     have hrem2 : (i : Int).tmod 8 = (s : Int) := by rw [Int.tmod_eq_emod_of_nonneg (by omega)]; omega
     have hmul : IntKind.i64.wrap (8 * (s : Int)) = (s8 : Int) := by rw [IntWalk.i64_in _ (by omega)]; omega
     have hcv : IntKind.u64.wrap (x : Int) = (x : Int) := wrap_nat _ (by omega)
     have hqI : 0 ≤ (q : Int) ∧ (q : Int) < 4 := by omega
     have hq4 : (q : Int) < 4 := by omega
     have hs8I : 0 ≤ (s8 : Int) := by omega
     have hs8J : (s8 : Int) < 64 := by omega
     have HSET := Lib.hid hset
     clear hset hstep hnext hlow hul hvl hvq hu hv hxs hxl hx hV hci hc hq hs hs8
     go_wp2
     refine wp_region_lins [(0, some [12]), (1, some [12]), (2, some [12]), (3, some [12]), (4, some [12]), (5, some [12]), (6, some [12]), (7, some [12]), (8, some [12]), (9, some [12]), (10, some [12]), (11, some [12]), (12, none)] (fun c w' => w'.cell? ⟨g1, q, none⟩ = some (.int .u64 (u : Int))) (by kernel_rfl) (by kernel_rfl) (by decide) (by kernel_rfl) (fun d _ _ _ _ h => by cases d <;> exact h) (fun c hc => hcD) ?_
     refine lins_read 17 (Op.move (Operand.tmp 4)) 3 _ rfl rfl rfl rfl rfl (fun w0 hw0 => by unfold mkOp; go_simp; all_goals (with_reducible rfl)) ?_
     simp only [Act.put, List.setIfInBounds_toArray, List.set_cons_zero, List.set_cons_succ]
     refine lins_read 18 (Op.binOp BinOp.quo 3 (Operand.tmp 17) (Operand.const (Value.int IntKind.i64 8)) 3) 3 (.int .i64 (q : Int)) rfl rfl rfl rfl rfl (fun w0 hw0 => by unfold mkOp; go_simp; all_goals (with_reducible rfl)) ?_
     simp only [Act.put, List.setIfInBounds_toArray, List.set_cons_zero, List.set_cons_succ]
     refine lins_read 19 (Op.indexAddr 46 (Operand.tmp 3) (Operand.tmp 18)) 0 _ rfl rfl rfl rfl rfl (fun w0 hw0 => by unfold mkOp; go_simp; all_goals (with_reducible rfl)) ?_
     simp only [Act.put, List.setIfInBounds_toArray, List.set_cons_zero, List.set_cons_succ]
     refine lins_read 20 (Op.load 45 (Operand.tmp 19)) 45 (.int .u64 (u : Int)) rfl rfl rfl rfl rfl (fun w0 hw0 => by have hc0 := hw0 12 (by simp); unfold mkOp; go_simp; all_goals (with_reducible rfl)) ?_
     simp only [Act.put, List.setIfInBounds_toArray, List.set_cons_zero, List.set_cons_succ]
     refine lins_read 21 (Op.move (Operand.tmp 5)) 5 _ rfl rfl rfl rfl rfl (fun w0 hw0 => by unfold mkOp; go_simp; all_goals (with_reducible rfl)) ?_
     simp only [Act.put, List.setIfInBounds_toArray, List.set_cons_zero, List.set_cons_succ]
     refine lins_read 22 (Op.convert 5 45 (Operand.tmp 21)) 45 (.int .u64 (x : Int)) rfl rfl rfl rfl rfl (fun w0 hw0 => by unfold mkOp; go_simp; all_goals (with_reducible rfl)) ?_
     simp only [Act.put, List.setIfInBounds_toArray, List.set_cons_zero, List.set_cons_succ]
     refine lins_read 23 (Op.move (Operand.tmp 4)) 3 _ rfl rfl rfl rfl rfl (fun w0 hw0 => by unfold mkOp; go_simp; all_goals (with_reducible rfl)) ?_
     simp only [Act.put, List.setIfInBounds_toArray, List.set_cons_zero, List.set_cons_succ]
     refine lins_read 24 (Op.binOp BinOp.rem 3 (Operand.tmp 23) (Operand.const (Value.int IntKind.i64 8)) 3) 3 (.int .i64 (s : Int)) rfl rfl rfl rfl rfl (fun w0 hw0 => by unfold mkOp; go_simp; all_goals (with_reducible rfl)) ?_
     simp only [Act.put, List.setIfInBounds_toArray, List.set_cons_zero, List.set_cons_succ]
     refine lins_read 25 (Op.binOp BinOp.mul 3 (Operand.const (Value.int IntKind.i64 8)) (Operand.tmp 24) 3) 3 (.int .i64 (s8 : Int)) rfl rfl rfl rfl rfl (fun w0 hw0 => by unfold mkOp; go_simp; all_goals (with_reducible rfl)) ?_
     simp only [Act.put, List.setIfInBounds_toArray, List.set_cons_zero, List.set_cons_succ]
     refine lins_read 26 (Op.binOp BinOp.shl 45 (Operand.tmp 22) (Operand.tmp 25) 3) 45 (.int .u64 (xs : Int)) rfl rfl rfl rfl rfl (fun w0 hw0 => by unfold mkOp; go_simp; all_goals (with_reducible rfl)) ?_
     simp only [Act.put, List.setIfInBounds_toArray, List.set_cons_zero, List.set_cons_succ]
     refine lins_read 27 (Op.binOp BinOp.or 45 (Operand.tmp 20) (Operand.tmp 26) 45) 45 (.int .u64 (v : Int)) rfl rfl rfl rfl rfl (fun w0 hw0 => by unfold mkOp; go_simp; all_goals (with_reducible rfl)) ?_
     simp only [Act.put, List.setIfInBounds_toArray, List.set_cons_zero, List.set_cons_succ]
     refine lins_read 28 (Op.indexAddr 46 (Operand.tmp 3) (Operand.tmp 18)) 0 _ rfl rfl rfl rfl rfl (fun w0 hw0 => by unfold mkOp; go_simp; all_goals (with_reducible rfl)) ?_
     simp only [Act.put, List.setIfInBounds_toArray, List.set_cons_zero, List.set_cons_succ]
     refine lins_store (Op.store 45 (Operand.tmp 28) (Operand.tmp 27)) 0 (_) rfl rfl rfl rfl rfl (by unfold mkOp; go_simp; all_goals (with_reducible rfl)) (fun _ _ => True) (fun c hc => by cases hc) ?_
     try simp only [Act.put, List.setIfInBounds_toArray, List.set_cons_zero, List.set_cons_succ]
     refine lins_end ?_
     go_wp2
     go_roundw
     case rel => exact ⟨i + 1, by omega, by go_num, HSET.out, hR.drew.setOther n01 _, hbel.drew.setCell (show g0 ≤ (⟨g1, q, none⟩ : Addr).block from l1) _⟩
     case measure => simp [intOf]; omega
   · obtain rfl : i = k := by omega
     obtain ⟨Z, hZ⟩ := nat_var (numL l 32)
     have hV : Z < B4 := by rw [hZ]; have h := numL_lt l 32; exact Nat.lt_of_lt_of_le h (by decide +kernel)
     have hkz := HKN.out
     rw [← hZ] at hkz
     rw [hkz] at hL
     have HRES := Lib.hid (show Z % top % p25 = ofL l by rw [hZ]; rfl)
     clear hZ hkz HKN
     have hc3 : wr.cell? ⟨g1, 3, none⟩ = some (.int .u64 ((wd Z 3 : Nat) : Int)) := hL.cell (i := 3) (by omega)
     have hf3 := hL.frozen 3
     have hand := andnot_top (wd Z 3) (wd_lt _ _)
     have hrT := row_top hL
     have hbT := hbel.setCell (p := ⟨g1, 3, none⟩) l1 (.int .u64 ((wd Z 3 % 9223372036854775808 : Nat) : Int))
     have hRT := hR.setOther (show g0 ≠ (⟨g1, 3, none⟩ : Addr).block from n01) (.int .u64 ((wd Z 3 % 9223372036854775808 : Nat) : Int))
     have HR := Lib.hid fun w => reduced_any (Z % top) 0 w (Nat.lt_trans (Nat.mod_lt _ top_pos) top_B4) (by decide)
     generalize Z % top = T at *
     generalize wd Z 3 % 9223372036854775808 = z at *
     generalize wd Z 3 = y at *
     clear hL hR hbel hV
     go_wp2_with (first
       | (refine wpList_load_arr rfl 46 (.tmp 3) rfl 4 arrW hrT rfl (by omega) ?_; simp only [Nat.zero_add])
       | (go_at_call 108; refine (HR.out _).mono ?_; rintro e wa ⟨rfl, hba⟩
          have hRa := hRT.of_block (hba.block _ hRT.lt)
          have hBa := hbT.trans (hba.mono (HGS.out _ hbT))
          clear hRT hbT hba hrT HR)
       | (refine wpList_store_arr rfl 51 (.tmp 2) (.tmp 35) rfl 4 arrE hRa rfl rfl (by omega) (fun _ _ => rfl) ?_; intro wb hrb hgb hsb))
     refine ret_cell_arr rfl arrE hrb rfl (by omega) rfl ⟨?_, by rw [HG.out]; exact hBa.grown hgb (HGS.out _ hBa) (by intro k hk; cases hk; exact Nat.le_refl _)⟩
     rw [agg_putW, HRES.out]
theorem bytesSame_any (v1 v2 : Value) (l1 l2 : List UInt8) (w : World) (h1 : Bs w v1 l1) (h2 : Bs w v2 l2) :
   Calls Tryz.prog 123 #[v1, v2] w fun e w' => e = .returned (.bool (l1 == l2)) ∧ w' = w := by
 have c1 := h1.conv
 have c2 := h2.conv
 clear h1 h2
 go_enter Tryz.func123, Tryz.ntmps123
 go_wp2
 go_ret
 exact ⟨rfl, rfl⟩
theorem flatSame_any (v1 v2 : Value) (l1 l2 : List UInt8) (w : World) (h1 : Bs w v1 l1) (h2 : Bs w v2 l2) :
   Calls Tryz.prog 92 #[v1, v2] w fun e w' => e = .returned (.bool (decide (l1 = l2))) ∧ w' = w := by
 have hd : decide (l1 = l2) = (l1 == l2) := by
   by_cases h : l1 = l2
   · rw [decide_eq_true h, h]; simp
   · rw [decide_eq_false h, beq_eq_false_iff_ne.2 h]
 rw [hd]
 go_enter Tryz.func92, Tryz.ntmps92
 go_wp2_with fail
 refine (bytesSame_any v1 v2 l1 l2 _ h1 h2).mono ?_
 rintro e w' ⟨rfl, rfl⟩
 go_wp2
 go_ret
 exact ⟨rfl, rfl⟩
theorem strict_same (l : List UInt8) : strictL l = if litB (ofL l) 32 = l then some (ofL l) else none := by
 rw [strictL_eq]
 by_cases h : litB (ofL l) 32 = l
 · have hp : ofL l < p25 := mod_p_lt _
   have h1 : l.length = 32 := by rw [← h, litB_length]
   have h2 : numL l 32 = ofL l := by
     have h3 := numL_own (ofL l) hp
     rw [h] at h3
     exact h3
   rw [if_pos h, if_pos ⟨h1, by rw [h2]; exact hp⟩, h2]
 · rw [if_neg h, if_neg]
   rintro ⟨h1, h2⟩
   apply h
   rw [ofL_low l h2]
   exact litB_numL l 32 h1
set_option maxHeartbeats 2000000 in
theorem strict_any (v : Value) (l : List UInt8) (w : World) (hv : Bs w v l) : Calls Tryz.prog 86 #[v] w fun e w' =>
   e = .returned (.tuple #[.agg (arrOf 4 (ewF ((strictL l).getD 0))), .int .i64 (strictE (strictL l))]) ∧ Below w.heap.size w w' := by
 have hR0 := rowIs_arr w 4 (u64f fun _ => 0) 51
 have hb0 := (Below.refl w.heap.size w).alloc (Nat.le_refl _) (.cells (arrOf 4 (u64f fun _ => 0)) 51)
 have HV := Lib.hid (hv.below hb0 (Nat.le_refl _))
 have HV0 := Lib.hid hv
 have HGS : Hid (∀ wq : World, Below w.heap.size w wq → w.heap.size ≤ wq.heap.size) := Lib.hid fun wq h => h.size
 have hst := strict_same l
 obtain ⟨T, hT⟩ := nat_var (ofL l)
 rw [← hT] at hst
 have HOF := Lib.hid fun w (h : Bs w v l) => of_any v l w h
 rw [← hT] at HOF
 obtain ⟨bl, hbl⟩ : ∃ bl, bl = litB T 32 := ⟨_, rfl⟩
 have HBY := Lib.hid fun w => bytes_any T w
 rw [← hbl] at HBY hst
 have HST := Lib.hid hst
 clear hT hbl hst hv
 by_cases hs : bl = l
 · have hres := HST.out
   rw [if_pos hs] at hres
   have HRES := Lib.hid hres
   have HEQ := Lib.hid fun v1 v2 (w : World) (h1 : Bs w v1 bl) (h2 : Bs w v2 l) => flatSame_any v1 v2 bl l w h1 h2
   rw [decide_eq_true hs] at HEQ
   clear hres hs HST
   go_enter Tryz.func86, Tryz.ntmps86
   go_wp2_with (first
     | refine wpList_alloc_arr rfl 51 rfl (arrOf 4 (u64f fun _ => 0)) zeroE ?_
     | (go_at_call 56; refine (HOF.out _ HV.out).mono ?_; rintro e w5 ⟨rfl, hb5⟩
        have hR5 := hR0.of_block (hb5.block _ hR0.lt)
        have hB5 := hb0.trans (hb5.mono (HGS.out _ hb0))
        have hl5 := hR5.lt
        have hR6 := hR5.alloc (.cells (arrOf 4 (u64f fun _ => 0)) 51)
        have hX6 := rowIs_arr w5 4 (u64f fun _ => 0) 51
        have hB6 := hB5.alloc (HGS.out _ hB5) (.cells (arrOf 4 (u64f fun _ => 0)) 51)
        clear hR0 hb0 hb5 hR5 HOF)
     | (refine wpList_store_arr rfl 51 (.tmp 4) (.tmp 6) rfl 4 arrE hX6 rfl rfl (by omega) (fun _ _ => rfl) ?_; intro w7 hr7 hg7 hs7
        have hX7 : w7.rowIs w5.heap.size 51 4 (ewF T) := hr7.congr fun i hi => by unfold putN; rw [if_pos (by omega), Nat.sub_zero]
        have hR7 := gb_rowIs hR6 hg7 (Nat.ne_of_lt hl5)
        have hB7 := hB6.grown hg7 (HGS.out _ hB6) (by intro k hk; cases hk; exact HGS.out _ hB5)
        clear hR6 hX6 hB6 hr7 hg7 hs7 hB5)
     | (refine wpList_load_arr rfl 51 (.tmp 4) rfl 4 arrE hX7 rfl (by omega) ?_; simp only [Nat.zero_add])
     | (go_at_call 63; refine (HBY.out _).mono ?_; rintro e w8 ⟨vb, rfl, hown8, hb8⟩
        have hR8 := hR7.of_block (hb8.block _ hR7.lt)
        have hX8 := hX7.of_block (hb8.block _ hX7.lt)
        have hB8 := hB7.trans (hb8.mono (HGS.out _ hB7))
        have hv8 := HV0.out.below hB8 (Nat.le_refl _)
        have hbs8 := hown8.bs
        clear hR7 hX7 hB7 hb8 hown8 HBY)
     | (go_at_call 92; refine (HEQ.out _ _ _ hbs8 hv8).mono ?_; rintro e w9 ⟨rfl, rfl⟩)
     | (refine wpList_load_arr rfl 51 (.tmp 4) rfl 4 arrE hX8 rfl (by omega) ?_; simp only [Nat.zero_add])
     | (refine wpList_store_arr rfl 51 (.tmp 2) (.tmp 13) rfl 4 arrE hR8 rfl rfl (by omega) (fun _ _ => rfl) ?_; intro wz hrz hgz hsz))
   refine ret_cell_arr_tmp rfl arrE hrz rfl rfl (by omega) rfl ⟨?_, hB8.grown hgz (HGS.out _ hB8) (by intro k hk; cases hk; exact Nat.le_refl _)⟩
   rw [agg_putW, HRES.out]
   rfl
 · have hres := HST.out
   rw [if_neg hs] at hres
   have HRES := Lib.hid hres
   have HEQ := Lib.hid fun v1 v2 (w : World) (h1 : Bs w v1 bl) (h2 : Bs w v2 l) => flatSame_any v1 v2 bl l w h1 h2
   rw [decide_eq_false hs] at HEQ
   clear hres hs HST
   go_enter Tryz.func86, Tryz.ntmps86
   go_wp2_with (first
     | refine wpList_alloc_arr rfl 51 rfl (arrOf 4 (u64f fun _ => 0)) zeroE ?_
     | (go_at_call 56; refine (HOF.out _ HV.out).mono ?_; rintro e w5 ⟨rfl, hb5⟩
        have hR5 := hR0.of_block (hb5.block _ hR0.lt)
        have hB5 := hb0.trans (hb5.mono (HGS.out _ hb0))
        have hl5 := hR5.lt
        have hR6 := hR5.alloc (.cells (arrOf 4 (u64f fun _ => 0)) 51)
        have hX6 := rowIs_arr w5 4 (u64f fun _ => 0) 51
        have hB6 := hB5.alloc (HGS.out _ hB5) (.cells (arrOf 4 (u64f fun _ => 0)) 51)
        clear hR0 hb0 hb5 hR5 HOF)
     | (refine wpList_store_arr rfl 51 (.tmp 4) (.tmp 6) rfl 4 arrE hX6 rfl rfl (by omega) (fun _ _ => rfl) ?_; intro w7 hr7 hg7 hs7
        have hX7 : w7.rowIs w5.heap.size 51 4 (ewF T) := hr7.congr fun i hi => by unfold putN; rw [if_pos (by omega), Nat.sub_zero]
        have hR7 := gb_rowIs hR6 hg7 (Nat.ne_of_lt hl5)
        have hB7 := hB6.grown hg7 (HGS.out _ hB6) (by intro k hk; cases hk; exact HGS.out _ hB5)
        clear hR6 hX6 hB6 hr7 hg7 hs7 hB5)
     | (refine wpList_load_arr rfl 51 (.tmp 4) rfl 4 arrE hX7 rfl (by omega) ?_; simp only [Nat.zero_add])
     | (go_at_call 63; refine (HBY.out _).mono ?_; rintro e w8 ⟨vb, rfl, hown8, hb8⟩
        have hR8 := hR7.of_block (hb8.block _ hR7.lt)
        have hB8 := hB7.trans (hb8.mono (HGS.out _ hB7))
        have hv8 := HV0.out.below hB8 (Nat.le_refl _)
        have hbs8 := hown8.bs
        clear hR7 hX7 hB7 hb8 hown8 HBY)
     | (go_at_call 92; refine (HEQ.out _ _ _ hbs8 hv8).mono ?_; rintro e w9 ⟨rfl, rfl⟩)
     | refine wpList_build_arr rfl 51 _ rfl (arrOf 4 (ewF 0)) (by kernel_rfl) ?_
     | (refine wpList_store_arr rfl 51 (.tmp 2) (.tmp 12) rfl 4 arrE hR8 rfl rfl (by omega) (fun _ _ => rfl) ?_; intro wz hrz hgz hsz))
   refine ret_cell_arr_tmp rfl arrE hrz rfl rfl (by omega) rfl ⟨?_, hB8.grown hgz (HGS.out _ hB8) (by intro k hk; cases hk; exact Nat.le_refl _)⟩
   rw [agg_putW, HRES.out]
   rfl
end Go.Proofs.YtonhpmaiagbheaaGreat
namespace Go.Proofs.YtonhpmaiagbheaaGreat
open Go.RowKit Go.Deep
theorem refInv5_any (A : Nat) (w : World) (hA : A < p25) : Calls Tryz.prog 77 #[.agg (arrOf 16 (feF A))] w fun e w' => e = .returned (.agg (arrOf 16 (feF (invP A)))) ∧ Below w.heap.size w w' := refInv_any A w hA
theorem refAdd5_any (A B : Nat) (w : World) (hA : A < p25) (hB : B < p25) : Calls Tryz.prog 97 #[.agg (arrOf 16 (feF A)), .agg (arrOf 16 (feF B))] w fun e w' => e = .returned (.agg (arrOf 16 (feF (addP A B)))) ∧ Below w.heap.size w w' := refAdd_any A B w hA hB
theorem refMul5_any (A B : Nat) (w : World) (hA : A < p25) (hB : B < p25) : Calls Tryz.prog 76 #[.agg (arrOf 16 (feF A)), .agg (arrOf 16 (feF B))] w fun e w' => e = .returned (.agg (arrOf 16 (feF (mulP A B)))) ∧ Below w.heap.size w w' := refMul_any A B w hA hB
theorem refNeg5_any (A : Nat) (w : World) (hA : A < p25) : Calls Tryz.prog 99 #[.agg (arrOf 16 (feF A))] w fun e w' => e = .returned (.agg (arrOf 16 (feF (oppP A)))) ∧ Below w.heap.size w w' := refNeg_any A w hA
section
variable {P : Program} {ops : Array Oper} {Q : Exit → Act → World → Prop}
end
end Go.Proofs.YtonhpmaiagbheaaGreat
namespace Go.Proofs.YtonhpmaiagbheaaGreat
open Go.RowKit Go.Deep
def ptF (x y z : Nat) : Nat → Value := fun i => if i < 16 then feF x i else if i < 32 then feF y (i - 16) else feF z (i - 32)
theorem ptF_x (x y z i : Nat) (h : i < 16) : ptF x y z (0 + i) = feF x i := by
 unfold ptF
 rw [Nat.zero_add, if_pos h]
theorem ptF_y (x y z i : Nat) (h : i < 16) : ptF x y z (16 + i) = feF y i := by
 unfold ptF
 rw [if_neg (by omega), if_pos (by omega), Nat.add_sub_cancel_left]
theorem ptF_z (x y z i : Nat) (h : i < 16) : ptF x y z (32 + i) = feF z i := by
 unfold ptF
 rw [if_neg (by omega), if_neg (by omega), Nat.add_sub_cancel_left]
theorem ptF_one (x y z j : Nat) : (ptF x y z j).oneCell' = true := by
 unfold ptF
 split
 · rfl
 · split <;> rfl
theorem arrP : IsArr Tryz.prog 63 48 := ⟨by kernel_rfl, by kernel_rfl⟩
theorem zeroPt : (Tryz.prog.info? 63).map (fun i => i.zero) = some (some (.agg (arrOf 48 (u64f fun _ => 0)))) := by kernel_rfl
theorem builtP (x y z : Nat) : Tryz.prog.built 63 [(0, .agg (arrOf 16 (feF x))), (1, .agg (arrOf 16 (feF y))), (2, .agg (arrOf 16 (feF z)))] = some (arrOf 48 (ptF x y z)) := by kernel_rfl
theorem builtP2 (y z : Nat) : Tryz.prog.built 63 [(1, .agg (arrOf 16 (feF y))), (2, .agg (arrOf 16 (feF z)))] = some (arrOf 48 (ptF 0 y z)) := by kernel_rfl
theorem exec_Fe_eq2 {w : World} (ρ : Operand → Value) (x y : Operand) (t : TypeId) {A C : Nat} {o : Bool} (hA : A < p25) (hC : C < p25) (ho : decide (A = C) = o) (hx : ρ x = .agg (arrOf 16 (feF A))) (hy : ρ y = .agg (arrOf 16 (feF C))) :
   (execOp ρ (mkOp (.binOp .eql 61 x y 61) t)).run Tryz.prog w = .ok (.value (.bool o)) w := by
 have hq := run_eqGuard_agg (P := Tryz.prog) w .eql 61 x y (arrOf 16 (feF A)) (arrOf 16 (feF C)) (by kernel_rfl)
 have hr := run_eql_arr2 (P := Tryz.prog) w 61 45 16 .u64 (fun i => (dig A i : Int)) (fun i => (dig C i : Int)) (by kernel_rfl) (by kernel_rfl) (by kernel_rfl)
 rw [← ho]
 have hr' : (binOp .eql 61 (.agg (arrOf 16 (feF A))) (.agg (arrOf 16 (feF C)))).run Tryz.prog w = .ok (.bool (decide (A = C))) w := by
   rw [← decide_eq_decide.2 (dig_inj hA hC)]; exact hr
 simp [execOp, mkOp, hx, hy, hq, hr', Result.andThen]
def pSame (a b : Nat × Nat × Nat) : Bool := decide (mulP a.1 b.2.2 = mulP b.1 a.2.2) && decide (mulP a.2.1 b.2.2 = mulP b.2.1 a.2.2)
def pEight (a : Nat × Nat × Nat) : Nat × Nat × Nat := let b := padd dP a a; let c := padd dP b b; padd dP c c
def pSmall (a : Nat × Nat × Nat) : Bool := pSame (pEight a) (0, 1, 1)
set_option maxHeartbeats 4000000 in
set_option maxRecDepth 10000 in
theorem curve_any (w : World) : Calls Tryz.prog 79 #[] w fun e w' => e = .returned (.agg (arrOf 16 (feF dP))) ∧ Below w.heap.size w w' := by
 have Bw0 := Below.refl w.heap.size w
 have HGS : Hid (∀ wq : World, Below w.heap.size w wq → w.heap.size ≤ wq.heap.size) := Lib.hid fun wq h => h.size
 go_enter Tryz.func79, Tryz.ntmps79
 go_wp2_with (first
   | (have hgo := Bw0; clear hgo
      refine wpList_alloc_row rfl 61 rfl 16 (u64f fun _ => 0) zeroFe ?_
      intro b_t0 w1 lk r_t0 kk
      have l_t0 := zrl HGS Bw0 lk
      have Bw1 := zbt HGS Bw0 kk
      clear Bw0 kk lk)
   | (have hgo := Bw1; clear hgo
      go_at_call 75
      refine (refSmall_any 121665 _ (by decide)).mono ?_
      rintro e w2 ⟨rfl, kk⟩
      replace r_t0 := zrb r_t0 kk
      have Bw2 := zbt HGS Bw1 kk
      clear Bw1 kk)
   | (have hgo := Bw2; clear hgo
      go_at_call 99
      refine (refNeg5_any 121665 _ (by decide +kernel)).mono ?_
      rintro e w3 ⟨rfl, kk⟩
      replace r_t0 := zrb r_t0 kk
      have Bw3 := zbt HGS Bw2 kk
      clear Bw2 kk)
   | (have hgo := Bw3; clear hgo
      go_at_call 75
      refine (refSmall_any 121666 _ (by decide)).mono ?_
      rintro e w4 ⟨rfl, kk⟩
      replace r_t0 := zrb r_t0 kk
      have Bw4 := zbt HGS Bw3 kk
      clear Bw3 kk)
   | (have hgo := Bw4; clear hgo
      go_at_call 77
      refine (refInv5_any 121666 _ (by decide +kernel)).mono ?_
      rintro e w5 ⟨rfl, kk⟩
      replace r_t0 := zrb r_t0 kk
      have Bw5 := zbt HGS Bw4 kk
      clear Bw4 kk)
   | (have hgo := Bw5; clear hgo
      go_at_call 76
      refine (refMul5_any (oppP 121665) (invP 121666) _ (oppP_lt _) (invP_lt _)).mono ?_
      rintro e w6 ⟨rfl, kk⟩
      replace r_t0 := zrb r_t0 kk
      have Bw6 := zbt HGS Bw5 kk
      clear Bw5 kk)
   | (have hgo := Bw6; clear hgo
      refine wpList_store_as rfl 61 (.tmp 0) (.tmp 5) rfl 16 (feF (mulP (oppP 121665) (invP 121666))) arrFe r_t0 rfl rfl (by omega) (fun _ _ => rfl) (fun i hi => putN_whole hi) ?_
      intro w7 q gk
      replace r_t0 := q
      have Bw7 := zbg HGS Bw6 gk l_t0
      clear Bw6 gk q))
 exact ret_cell_as _ rfl arrFe r_t0 rfl (by omega) (fun _ _ => rfl) rfl ⟨rfl, Bw7⟩
set_option maxHeartbeats 4000000 in
set_option maxRecDepth 10000 in
theorem refZero_any (w : World) : Calls Tryz.prog 80 #[] w fun e w' => e = .returned (.agg (arrOf 48 (ptF 0 1 1))) ∧ Below w.heap.size w w' := by
 have Bw0 := Below.refl w.heap.size w
 have HGS : Hid (∀ wq : World, Below w.heap.size w wq → w.heap.size ≤ wq.heap.size) := Lib.hid fun wq h => h.size
 go_enter Tryz.func80, Tryz.ntmps80
 go_wp2_with (first
   | (have hgo := Bw0; clear hgo
      refine wpList_alloc_row rfl 63 rfl 48 (u64f fun _ => 0) zeroPt ?_
      intro b_t0 w1 lk r_t0 kk
      have l_t0 := zrl HGS Bw0 lk
      have Bw1 := zbt HGS Bw0 kk
      clear Bw0 kk lk)
   | (have hgo := Bw1; clear hgo
      go_at_call 75
      refine (refSmall_any 1 _ (by decide)).mono ?_
      rintro e w2 ⟨rfl, kk⟩
      replace r_t0 := zrb r_t0 kk
      have Bw2 := zbt HGS Bw1 kk
      clear Bw1 kk)
   | (have hgo := Bw2; clear hgo
      go_at_call 75
      refine (refSmall_any 1 _ (by decide)).mono ?_
      rintro e w3 ⟨rfl, kk⟩
      replace r_t0 := zrb r_t0 kk
      have Bw3 := zbt HGS Bw2 kk
      clear Bw2 kk)
   | (have hgo := Bw3; clear hgo
      refine wpList_build_arr rfl 63 #[(1, Operand.tmp 1), (2, Operand.tmp 2)] rfl (arrOf 48 (ptF 0 1 1)) ?_ ?_
      · simp only [List.map_toArray, List.map_cons, List.map_nil]; exact builtP2 1 1
      have Bw4 := Bw3
      clear Bw3)
   | (have hgo := Bw4; clear hgo
      refine wpList_store_as rfl 63 (.tmp 0) (.tmp 3) rfl 48 (ptF 0 1 1) arrP r_t0 rfl rfl (by omega) (fun j _ => ptF_one _ _ _ j) (fun i hi => putN_whole hi) ?_
      intro w5 q gk
      replace r_t0 := q
      have Bw5 := zbg HGS Bw4 gk l_t0
      clear Bw4 gk q))
 exact ret_cell_as _ rfl arrP r_t0 rfl (by omega) (fun _ _ => rfl) rfl ⟨rfl, Bw5⟩
set_option maxHeartbeats 4000000 in
set_option maxRecDepth 10000 in
theorem refPadd_any (X Y Z V Q T D : Nat) (w : World) (HX : X < p25) (HY : Y < p25) (HZ : Z < p25) (HV : V < p25) (HQ : Q < p25) (HT : T < p25) (HD : D < p25) : Calls Tryz.prog 81 #[.agg (arrOf 48 (ptF X Y Z)), .agg (arrOf 48 (ptF V Q T)), .agg (arrOf 16 (feF D))] w fun e w' => e = .returned (.agg (arrOf 48 (ptF (padd D (X, Y, Z) (V, Q, T)).1 (padd D (X, Y, Z) (V, Q, T)).2.1 (padd D (X, Y, Z) (V, Q, T)).2.2))) ∧ Below w.heap.size w w' := by
 have Bw0 := Below.refl w.heap.size w
 have HGS : Hid (∀ wq : World, Below w.heap.size w wq → w.heap.size ≤ wq.heap.size) := Lib.hid fun wq h => h.size
 replace HX := Lib.hid HX
 replace HY := Lib.hid HY
 replace HZ := Lib.hid HZ
 replace HV := Lib.hid HV
 replace HQ := Lib.hid HQ
 replace HT := Lib.hid HT
 replace HD := Lib.hid HD
 go_enter Tryz.func81, Tryz.ntmps81
 go_wp2_with (first
   | (have hgo := Bw0; clear hgo
      refine wpList_box_row rfl 63 (.tmp 0) rfl 48 (ptF X Y Z) rfl ?_
      intro b_t3 w1 lk r_t3 kk
      have l_t3 := zrl HGS Bw0 lk
      have Bw1 := zbt HGS Bw0 kk
      clear Bw0 kk lk)
   | (have hgo := Bw1; clear hgo
      refine wpList_box_row rfl 63 (.tmp 1) rfl 48 (ptF V Q T) rfl ?_
      intro b_t4 w2 lk r_t4 kk
      have n_t3_t4 := zrn r_t3 lk
      have l_t4 := zrl HGS Bw1 lk
      replace r_t3 := zrb r_t3 kk
      have Bw2 := zbt HGS Bw1 kk
      clear Bw1 kk lk)
   | (have hgo := Bw2; clear hgo
      refine wpList_box_row rfl 61 (.tmp 2) rfl 16 (feF D) rfl ?_
      intro b_t5 w3 lk r_t5 kk
      have n_t3_t5 := zrn r_t3 lk
      have n_t4_t5 := zrn r_t4 lk
      have l_t5 := zrl HGS Bw2 lk
      replace r_t3 := zrb r_t3 kk
      replace r_t4 := zrb r_t4 kk
      have Bw3 := zbt HGS Bw2 kk
      clear Bw2 kk lk)
   | (have hgo := Bw3; clear hgo
      refine wpList_alloc_row rfl 63 rfl 48 (u64f fun _ => 0) zeroPt ?_
      intro b_t6 w4 lk r_t6 kk
      have n_t3_t6 := zrn r_t3 lk
      have n_t4_t6 := zrn r_t4 lk
      have n_t5_t6 := zrn r_t5 lk
      have l_t6 := zrl HGS Bw3 lk
      replace r_t3 := zrb r_t3 kk
      replace r_t4 := zrb r_t4 kk
      replace r_t5 := zrb r_t5 kk
      have Bw4 := zbt HGS Bw3 kk
      clear Bw3 kk lk)
   | (have hgo := Bw4; clear hgo
      refine wpList_load_as rfl 61 (.tmp 15) rfl 16 (feF Z) arrFe r_t3 rfl (by omega) (fun i hi => ptF_z _ _ _ i hi) ?_
      have Bw5 := Bw4
      clear Bw4)
   | (have hgo := Bw5; clear hgo
      refine wpList_load_as rfl 61 (.tmp 17) rfl 16 (feF T) arrFe r_t4 rfl (by omega) (fun i hi => ptF_z _ _ _ i hi) ?_
      have Bw6 := Bw5
      clear Bw5)
   | (have hgo := Bw6; clear hgo
      go_at_call 76
      refine (refMul5_any Z T _ HZ.out HT.out).mono ?_
      rintro e w9 ⟨rfl, kk⟩
      replace r_t3 := zrb r_t3 kk
      replace r_t4 := zrb r_t4 kk
      replace r_t5 := zrb r_t5 kk
      replace r_t6 := zrb r_t6 kk
      have Bw7 := zbt HGS Bw6 kk
      clear Bw6 kk)
   | (have hgo := Bw7; clear hgo
      refine wpList_alloc_row rfl 61 rfl 16 (u64f fun _ => 0) zeroFe ?_
      intro b_t7 w10 lk r_t7 kk
      have n_t3_t7 := zrn r_t3 lk
      have n_t4_t7 := zrn r_t4 lk
      have n_t5_t7 := zrn r_t5 lk
      have n_t6_t7 := zrn r_t6 lk
      have l_t7 := zrl HGS Bw7 lk
      replace r_t3 := zrb r_t3 kk
      replace r_t4 := zrb r_t4 kk
      replace r_t5 := zrb r_t5 kk
      replace r_t6 := zrb r_t6 kk
      have Bw8 := zbt HGS Bw7 kk
      clear Bw7 kk lk)
   | (have hgo := Bw8; clear hgo
      refine wpList_store_as rfl 61 (.tmp 7) (.tmp 19) rfl 16 (feF (mulP Z T)) arrFe r_t7 rfl rfl (by omega) (fun _ _ => rfl) (fun i hi => putN_whole hi) ?_
      intro w11 q gk
      replace r_t3 := gb_rowIs r_t3 gk n_t3_t7
      replace r_t4 := gb_rowIs r_t4 gk n_t4_t7
      replace r_t5 := gb_rowIs r_t5 gk n_t5_t7
      replace r_t6 := gb_rowIs r_t6 gk n_t6_t7
      replace r_t7 := q
      have Bw9 := zbg HGS Bw8 gk l_t7
      clear Bw8 gk q)
   | (have hgo := Bw9; clear hgo
      refine wpList_load_as rfl 61 (.tmp 7) rfl 16 (feF (mulP Z T)) arrFe r_t7 rfl (by omega) (fun i hi => by rw [Nat.zero_add]) ?_
      have Bw10 := Bw9
      clear Bw9)
   | (have hgo := Bw10; clear hgo
      refine wpList_load_as rfl 61 (.tmp 7) rfl 16 (feF (mulP Z T)) arrFe r_t7 rfl (by omega) (fun i hi => by rw [Nat.zero_add]) ?_
      have Bw11 := Bw10
      clear Bw10)
   | (have hgo := Bw11; clear hgo
      go_at_call 76
      refine (refMul5_any (mulP Z T) (mulP Z T) _ (mulP_lt _ _) (mulP_lt _ _)).mono ?_
      rintro e w14 ⟨rfl, kk⟩
      replace r_t3 := zrb r_t3 kk
      replace r_t4 := zrb r_t4 kk
      replace r_t5 := zrb r_t5 kk
      replace r_t6 := zrb r_t6 kk
      replace r_t7 := zrb r_t7 kk
      have Bw12 := zbt HGS Bw11 kk
      clear Bw11 kk)
   | (have hgo := Bw12; clear hgo
      refine wpList_alloc_row rfl 61 rfl 16 (u64f fun _ => 0) zeroFe ?_
      intro b_t8 w15 lk r_t8 kk
      have n_t3_t8 := zrn r_t3 lk
      have n_t4_t8 := zrn r_t4 lk
      have n_t5_t8 := zrn r_t5 lk
      have n_t6_t8 := zrn r_t6 lk
      have n_t7_t8 := zrn r_t7 lk
      have l_t8 := zrl HGS Bw12 lk
      replace r_t3 := zrb r_t3 kk
      replace r_t4 := zrb r_t4 kk
      replace r_t5 := zrb r_t5 kk
      replace r_t6 := zrb r_t6 kk
      replace r_t7 := zrb r_t7 kk
      have Bw13 := zbt HGS Bw12 kk
      clear Bw12 kk lk)
   | (have hgo := Bw13; clear hgo
      refine wpList_store_as rfl 61 (.tmp 8) (.tmp 22) rfl 16 (feF (mulP (mulP Z T) (mulP Z T))) arrFe r_t8 rfl rfl (by omega) (fun _ _ => rfl) (fun i hi => putN_whole hi) ?_
      intro w16 q gk
      replace r_t3 := gb_rowIs r_t3 gk n_t3_t8
      replace r_t4 := gb_rowIs r_t4 gk n_t4_t8
      replace r_t5 := gb_rowIs r_t5 gk n_t5_t8
      replace r_t6 := gb_rowIs r_t6 gk n_t6_t8
      replace r_t7 := gb_rowIs r_t7 gk n_t7_t8
      replace r_t8 := q
      have Bw14 := zbg HGS Bw13 gk l_t8
      clear Bw13 gk q)
   | (have hgo := Bw14; clear hgo
      refine wpList_load_as rfl 61 (.tmp 23) rfl 16 (feF X) arrFe r_t3 rfl (by omega) (fun i hi => ptF_x _ _ _ i hi) ?_
      have Bw15 := Bw14
      clear Bw14)
   | (have hgo := Bw15; clear hgo
      refine wpList_load_as rfl 61 (.tmp 25) rfl 16 (feF V) arrFe r_t4 rfl (by omega) (fun i hi => ptF_x _ _ _ i hi) ?_
      have Bw16 := Bw15
      clear Bw15)
   | (have hgo := Bw16; clear hgo
      go_at_call 76
      refine (refMul5_any X V _ HX.out HV.out).mono ?_
      rintro e w21 ⟨rfl, kk⟩
      replace r_t3 := zrb r_t3 kk
      replace r_t4 := zrb r_t4 kk
      replace r_t5 := zrb r_t5 kk
      replace r_t6 := zrb r_t6 kk
      replace r_t7 := zrb r_t7 kk
      replace r_t8 := zrb r_t8 kk
      have Bw17 := zbt HGS Bw16 kk
      clear Bw16 kk)
   | (have hgo := Bw17; clear hgo
      refine wpList_alloc_row rfl 61 rfl 16 (u64f fun _ => 0) zeroFe ?_
      intro b_t9 w22 lk r_t9 kk
      have n_t3_t9 := zrn r_t3 lk
      have n_t4_t9 := zrn r_t4 lk
      have n_t5_t9 := zrn r_t5 lk
      have n_t6_t9 := zrn r_t6 lk
      have n_t7_t9 := zrn r_t7 lk
      have n_t8_t9 := zrn r_t8 lk
      have l_t9 := zrl HGS Bw17 lk
      replace r_t3 := zrb r_t3 kk
      replace r_t4 := zrb r_t4 kk
      replace r_t5 := zrb r_t5 kk
      replace r_t6 := zrb r_t6 kk
      replace r_t7 := zrb r_t7 kk
      replace r_t8 := zrb r_t8 kk
      have Bw18 := zbt HGS Bw17 kk
      clear Bw17 kk lk)
   | (have hgo := Bw18; clear hgo
      refine wpList_store_as rfl 61 (.tmp 9) (.tmp 27) rfl 16 (feF (mulP X V)) arrFe r_t9 rfl rfl (by omega) (fun _ _ => rfl) (fun i hi => putN_whole hi) ?_
      intro w23 q gk
      replace r_t3 := gb_rowIs r_t3 gk n_t3_t9
      replace r_t4 := gb_rowIs r_t4 gk n_t4_t9
      replace r_t5 := gb_rowIs r_t5 gk n_t5_t9
      replace r_t6 := gb_rowIs r_t6 gk n_t6_t9
      replace r_t7 := gb_rowIs r_t7 gk n_t7_t9
      replace r_t8 := gb_rowIs r_t8 gk n_t8_t9
      replace r_t9 := q
      have Bw19 := zbg HGS Bw18 gk l_t9
      clear Bw18 gk q)
   | (have hgo := Bw19; clear hgo
      refine wpList_load_as rfl 61 (.tmp 28) rfl 16 (feF Y) arrFe r_t3 rfl (by omega) (fun i hi => ptF_y _ _ _ i hi) ?_
      have Bw20 := Bw19
      clear Bw19)
   | (have hgo := Bw20; clear hgo
      refine wpList_load_as rfl 61 (.tmp 30) rfl 16 (feF Q) arrFe r_t4 rfl (by omega) (fun i hi => ptF_y _ _ _ i hi) ?_
      have Bw21 := Bw20
      clear Bw20)
   | (have hgo := Bw21; clear hgo
      go_at_call 76
      refine (refMul5_any Y Q _ HY.out HQ.out).mono ?_
      rintro e w28 ⟨rfl, kk⟩
      replace r_t3 := zrb r_t3 kk
      replace r_t4 := zrb r_t4 kk
      replace r_t5 := zrb r_t5 kk
      replace r_t6 := zrb r_t6 kk
      replace r_t7 := zrb r_t7 kk
      replace r_t8 := zrb r_t8 kk
      replace r_t9 := zrb r_t9 kk
      have Bw22 := zbt HGS Bw21 kk
      clear Bw21 kk)
   | (have hgo := Bw22; clear hgo
      refine wpList_alloc_row rfl 61 rfl 16 (u64f fun _ => 0) zeroFe ?_
      intro b_t10 w29 lk r_t10 kk
      have n_t3_t10 := zrn r_t3 lk
      have n_t4_t10 := zrn r_t4 lk
      have n_t5_t10 := zrn r_t5 lk
      have n_t6_t10 := zrn r_t6 lk
      have n_t7_t10 := zrn r_t7 lk
      have n_t8_t10 := zrn r_t8 lk
      have n_t9_t10 := zrn r_t9 lk
      have l_t10 := zrl HGS Bw22 lk
      replace r_t3 := zrb r_t3 kk
      replace r_t4 := zrb r_t4 kk
      replace r_t5 := zrb r_t5 kk
      replace r_t6 := zrb r_t6 kk
      replace r_t7 := zrb r_t7 kk
      replace r_t8 := zrb r_t8 kk
      replace r_t9 := zrb r_t9 kk
      have Bw23 := zbt HGS Bw22 kk
      clear Bw22 kk lk)
   | (have hgo := Bw23; clear hgo
      refine wpList_store_as rfl 61 (.tmp 10) (.tmp 32) rfl 16 (feF (mulP Y Q)) arrFe r_t10 rfl rfl (by omega) (fun _ _ => rfl) (fun i hi => putN_whole hi) ?_
      intro w30 q gk
      replace r_t3 := gb_rowIs r_t3 gk n_t3_t10
      replace r_t4 := gb_rowIs r_t4 gk n_t4_t10
      replace r_t5 := gb_rowIs r_t5 gk n_t5_t10
      replace r_t6 := gb_rowIs r_t6 gk n_t6_t10
      replace r_t7 := gb_rowIs r_t7 gk n_t7_t10
      replace r_t8 := gb_rowIs r_t8 gk n_t8_t10
      replace r_t9 := gb_rowIs r_t9 gk n_t9_t10
      replace r_t10 := q
      have Bw24 := zbg HGS Bw23 gk l_t10
      clear Bw23 gk q))
 have Bw25 := Bw24.drew
 replace r_t3 := World.rowIs.drew r_t3
 replace r_t4 := World.rowIs.drew r_t4
 replace r_t5 := World.rowIs.drew r_t5
 replace r_t6 := World.rowIs.drew r_t6
 replace r_t7 := World.rowIs.drew r_t7
 replace r_t8 := World.rowIs.drew r_t8
 replace r_t9 := World.rowIs.drew r_t9
 replace r_t10 := World.rowIs.drew r_t10
 clear Bw24
 refine zpo [] (.rd 0 (.rd 1 (.rd 2 .done))) #[true, true, true, false, false, false, false] [3, 4, 5, 6] [some 36, some 37, some 11, none] [[], [0], [], [0, 1, 2]] [(0, []), (1, []), (2, []), (3, [1, 2]), (4, [0, 3, 3]), (5, []), (6, [5, 4, 4, 0, 1, 2, 3, 4, 5])] 7 ?_
 refine zld (feF D) arrFe r_t5 rfl (fun i hi => by rw [Nat.zero_add]) rfl rfl rfl rfl rfl (by omega) ?_
 refine zld (feF (mulP X V)) arrFe r_t9 rfl (fun i hi => by rw [Nat.zero_add]) rfl rfl rfl rfl rfl (by omega) ?_
 refine zld (feF (mulP Y Q)) arrFe r_t10 rfl (fun i hi => by rw [Nat.zero_add]) rfl rfl rfl rfl rfl (by omega) ?_
 simp only [Act.put, zA, zB, zC]
 refine lintz_leaf ?_
 refine po_start [.val (.agg (arrOf 16 (feF (mulP (mulP X V) (mulP Y Q))))), .val (.agg (arrOf 16 (feF (mulP D (mulP (mulP X V) (mulP Y Q)))))), .row 61 16 (u64f fun _ => 0) 3 (feF (mulP D (mulP (mulP X V) (mulP Y Q)))), .nil] [] (fun i hi => absurd hi (Nat.not_lt_zero _)) (fun HWF m gz wa p az hp hm hmp hcl hdn hE hJ hS hO => ?_) (fun gz wa hE hJ => ?_)
 · rcases (show p = 0 ∨ p = 1 ∨ p = 2 ∨ p = 3 by have h9 : p < 4 := hp; omega) with rfl | rfl | rfl | rfl
   · have e34 : az.eval (.tmp 34) = .agg (arrOf 16 (feF (mulP X V))) := hO 34 rfl
     have e35 : az.eval (.tmp 35) = .agg (arrOf 16 (feF (mulP Y Q))) := hO 35 rfl
     exact po_k HWF hJ hE (refMul5_any (mulP X V) (mulP Y Q) _ (mulP_lt _ _) (mulP_lt _ _)) rfl rfl rfl rfl rfl rfl (ar2 e34 e35)
   · have e33 : az.eval (.tmp 33) = .agg (arrOf 16 (feF D)) := hO 33 rfl
     exact po_k HWF hJ hE (refMul5_any D (mulP (mulP X V) (mulP Y Q)) _ HD.out (mulP_lt _ _)) rfl rfl rfl rfl rfl rfl (ar2 e33 (po_e hS hdn hJ 0 36 rfl rfl rfl rfl))
   · exact po_alloc 11 _ 61 16 (u64f fun _ => 0) _ _ HWF hJ rfl (po_notyet hcl hmp (by rw [hm]; exact hp) (by decide)) hE rfl rfl rfl rfl rfl rfl zeroFe
   · exact po_sr 2 hm hp hmp hdn hJ hE rfl rfl rfl rfl rfl rfl rfl rfl (po_e0 hS hdn 2 11 rfl rfl rfl) (po_e hS hdn hJ 1 37 rfl rfl rfl rfl) arrFe (fun _ _ => rfl)
 · obtain ⟨b_t11, p_t11, lk_t11, r_t11, d_t11⟩ := hJ.row 2 (by decide) rfl (by decide)
   rw [putO_true _ _ _ _ _ rfl]
   simp only [putA, Nat.zero_add, Nat.reduceAdd]
   rw [hJ.tt 0 rfl, hJ.tt 1 rfl, p_t11]
   simp only [Act.put, zA, zB, zC]
   refine po_end ?_
   have n_t3_t11 := zrn r_t3 lk_t11
   have n_t4_t11 := zrn r_t4 lk_t11
   have n_t5_t11 := zrn r_t5 lk_t11
   have n_t6_t11 := zrn r_t6 lk_t11
   have n_t7_t11 := zrn r_t7 lk_t11
   have n_t8_t11 := zrn r_t8 lk_t11
   have n_t9_t11 := zrn r_t9 lk_t11
   have n_t10_t11 := zrn r_t10 lk_t11
   have l_t11 := zrl HGS Bw25 lk_t11
   replace r_t3 := Keep.row hE r_t3 rfl
   replace r_t4 := Keep.row hE r_t4 rfl
   replace r_t5 := Keep.row hE r_t5 rfl
   replace r_t6 := Keep.row hE r_t6 rfl
   replace r_t7 := Keep.row hE r_t7 rfl
   replace r_t8 := Keep.row hE r_t8 rfl
   replace r_t9 := Keep.row hE r_t9 rfl
   replace r_t10 := Keep.row hE r_t10 rfl
   have Bw26 := hE.below Bw25 (HGS.out _ Bw25) rfl
   clear Bw25 hE hJ p_t11 lk_t11 d_t11
   go_wp2_with (first
     | (have hgo := Bw26; clear hgo
        refine wpList_load_as rfl 61 (.tmp 8) rfl 16 (feF (mulP (mulP Z T) (mulP Z T))) arrFe r_t8 rfl (by omega) (fun i hi => by rw [Nat.zero_add]) ?_
        have Bw27 := Bw26
        clear Bw26)
     | (have hgo := Bw27; clear hgo
        refine wpList_load_as rfl 61 (.tmp 11) rfl 16 (feF (mulP D (mulP (mulP X V) (mulP Y Q)))) arrFe r_t11 rfl (by omega) (fun i hi => by rw [Nat.zero_add]) ?_
        have Bw28 := Bw27
        clear Bw27)
     | (have hgo := Bw28; clear hgo
        go_at_call 96
        refine (refSub_any (mulP (mulP Z T) (mulP Z T)) (mulP D (mulP (mulP X V) (mulP Y Q))) _ (mulP_lt _ _) (mulP_lt _ _)).mono ?_
        rintro e w33 ⟨rfl, kk⟩
        replace r_t3 := zrb r_t3 kk
        replace r_t4 := zrb r_t4 kk
        replace r_t5 := zrb r_t5 kk
        replace r_t6 := zrb r_t6 kk
        replace r_t7 := zrb r_t7 kk
        replace r_t8 := zrb r_t8 kk
        replace r_t9 := zrb r_t9 kk
        replace r_t10 := zrb r_t10 kk
        replace r_t11 := zrb r_t11 kk
        have Bw29 := zbt HGS Bw28 kk
        clear Bw28 kk)
     | (have hgo := Bw29; clear hgo
        refine wpList_alloc_row rfl 61 rfl 16 (u64f fun _ => 0) zeroFe ?_
        intro b_t12 w34 lk r_t12 kk
        have n_t3_t12 := zrn r_t3 lk
        have n_t4_t12 := zrn r_t4 lk
        have n_t5_t12 := zrn r_t5 lk
        have n_t6_t12 := zrn r_t6 lk
        have n_t7_t12 := zrn r_t7 lk
        have n_t8_t12 := zrn r_t8 lk
        have n_t9_t12 := zrn r_t9 lk
        have n_t10_t12 := zrn r_t10 lk
        have n_t11_t12 := zrn r_t11 lk
        have l_t12 := zrl HGS Bw29 lk
        replace r_t3 := zrb r_t3 kk
        replace r_t4 := zrb r_t4 kk
        replace r_t5 := zrb r_t5 kk
        replace r_t6 := zrb r_t6 kk
        replace r_t7 := zrb r_t7 kk
        replace r_t8 := zrb r_t8 kk
        replace r_t9 := zrb r_t9 kk
        replace r_t10 := zrb r_t10 kk
        replace r_t11 := zrb r_t11 kk
        have Bw30 := zbt HGS Bw29 kk
        clear Bw29 kk lk)
     | (have hgo := Bw30; clear hgo
        refine wpList_store_as rfl 61 (.tmp 12) (.tmp 40) rfl 16 (feF (subP p25 (mulP (mulP Z T) (mulP Z T)) (mulP D (mulP (mulP X V) (mulP Y Q))))) arrFe r_t12 rfl rfl (by omega) (fun _ _ => rfl) (fun i hi => putN_whole hi) ?_
        intro w35 q gk
        replace r_t3 := gb_rowIs r_t3 gk n_t3_t12
        replace r_t4 := gb_rowIs r_t4 gk n_t4_t12
        replace r_t5 := gb_rowIs r_t5 gk n_t5_t12
        replace r_t6 := gb_rowIs r_t6 gk n_t6_t12
        replace r_t7 := gb_rowIs r_t7 gk n_t7_t12
        replace r_t8 := gb_rowIs r_t8 gk n_t8_t12
        replace r_t9 := gb_rowIs r_t9 gk n_t9_t12
        replace r_t10 := gb_rowIs r_t10 gk n_t10_t12
        replace r_t11 := gb_rowIs r_t11 gk n_t11_t12
        replace r_t12 := q
        have Bw31 := zbg HGS Bw30 gk l_t12
        clear Bw30 gk q)
     | (have hgo := Bw31; clear hgo
        refine wpList_load_as rfl 61 (.tmp 8) rfl 16 (feF (mulP (mulP Z T) (mulP Z T))) arrFe r_t8 rfl (by omega) (fun i hi => by rw [Nat.zero_add]) ?_
        have Bw32 := Bw31
        clear Bw31)
     | (have hgo := Bw32; clear hgo
        refine wpList_load_as rfl 61 (.tmp 11) rfl 16 (feF (mulP D (mulP (mulP X V) (mulP Y Q)))) arrFe r_t11 rfl (by omega) (fun i hi => by rw [Nat.zero_add]) ?_
        have Bw33 := Bw32
        clear Bw32)
     | (have hgo := Bw33; clear hgo
        go_at_call 97
        refine (refAdd5_any (mulP (mulP Z T) (mulP Z T)) (mulP D (mulP (mulP X V) (mulP Y Q))) _ (mulP_lt _ _) (mulP_lt _ _)).mono ?_
        rintro e w38 ⟨rfl, kk⟩
        replace r_t3 := zrb r_t3 kk
        replace r_t4 := zrb r_t4 kk
        replace r_t5 := zrb r_t5 kk
        replace r_t6 := zrb r_t6 kk
        replace r_t7 := zrb r_t7 kk
        replace r_t8 := zrb r_t8 kk
        replace r_t9 := zrb r_t9 kk
        replace r_t10 := zrb r_t10 kk
        replace r_t11 := zrb r_t11 kk
        replace r_t12 := zrb r_t12 kk
        have Bw34 := zbt HGS Bw33 kk
        clear Bw33 kk)
     | (have hgo := Bw34; clear hgo
        refine wpList_alloc_row rfl 61 rfl 16 (u64f fun _ => 0) zeroFe ?_
        intro b_t13 w39 lk r_t13 kk
        have n_t3_t13 := zrn r_t3 lk
        have n_t4_t13 := zrn r_t4 lk
        have n_t5_t13 := zrn r_t5 lk
        have n_t6_t13 := zrn r_t6 lk
        have n_t7_t13 := zrn r_t7 lk
        have n_t8_t13 := zrn r_t8 lk
        have n_t9_t13 := zrn r_t9 lk
        have n_t10_t13 := zrn r_t10 lk
        have n_t11_t13 := zrn r_t11 lk
        have n_t12_t13 := zrn r_t12 lk
        have l_t13 := zrl HGS Bw34 lk
        replace r_t3 := zrb r_t3 kk
        replace r_t4 := zrb r_t4 kk
        replace r_t5 := zrb r_t5 kk
        replace r_t6 := zrb r_t6 kk
        replace r_t7 := zrb r_t7 kk
        replace r_t8 := zrb r_t8 kk
        replace r_t9 := zrb r_t9 kk
        replace r_t10 := zrb r_t10 kk
        replace r_t11 := zrb r_t11 kk
        replace r_t12 := zrb r_t12 kk
        have Bw35 := zbt HGS Bw34 kk
        clear Bw34 kk lk)
     | (have hgo := Bw35; clear hgo
        refine wpList_store_as rfl 61 (.tmp 13) (.tmp 43) rfl 16 (feF (addP (mulP (mulP Z T) (mulP Z T)) (mulP D (mulP (mulP X V) (mulP Y Q))))) arrFe r_t13 rfl rfl (by omega) (fun _ _ => rfl) (fun i hi => putN_whole hi) ?_
        intro w40 q gk
        replace r_t3 := gb_rowIs r_t3 gk n_t3_t13
        replace r_t4 := gb_rowIs r_t4 gk n_t4_t13
        replace r_t5 := gb_rowIs r_t5 gk n_t5_t13
        replace r_t6 := gb_rowIs r_t6 gk n_t6_t13
        replace r_t7 := gb_rowIs r_t7 gk n_t7_t13
        replace r_t8 := gb_rowIs r_t8 gk n_t8_t13
        replace r_t9 := gb_rowIs r_t9 gk n_t9_t13
        replace r_t10 := gb_rowIs r_t10 gk n_t10_t13
        replace r_t11 := gb_rowIs r_t11 gk n_t11_t13
        replace r_t12 := gb_rowIs r_t12 gk n_t12_t13
        replace r_t13 := q
        have Bw36 := zbg HGS Bw35 gk l_t13
        clear Bw35 gk q))
   have Bw37 := Bw36.drew
   replace r_t3 := World.rowIs.drew r_t3
   replace r_t4 := World.rowIs.drew r_t4
   replace r_t5 := World.rowIs.drew r_t5
   replace r_t6 := World.rowIs.drew r_t6
   replace r_t7 := World.rowIs.drew r_t7
   replace r_t8 := World.rowIs.drew r_t8
   replace r_t9 := World.rowIs.drew r_t9
   replace r_t10 := World.rowIs.drew r_t10
   replace r_t11 := World.rowIs.drew r_t11
   replace r_t12 := World.rowIs.drew r_t12
   replace r_t13 := World.rowIs.drew r_t13
   clear Bw36
   refine zpo [] (.rd 0 (.rd 1 (.rd 2 (.rd 3 (.rd 5 (.rd 6 (.rd 7 (.rd 8 .done)))))))) #[true, true, true, true, false, true, true, true, true, false, false, false, false] [4, 9, 10, 11, 12] [some 48, some 53, some 54, some 14, none] [[], [0], [0, 1], [], [0, 1, 2, 3]] [(0, []), (1, [0]), (2, []), (3, [2]), (4, [1, 3]), (5, []), (6, [5]), (7, []), (8, [7]), (9, [6, 8, 4]), (10, [4, 9, 9]), (11, []), (12, [11, 10, 10, 0, 1, 2, 3, 4, 5, 6, 7, 8, 9, 10, 11])] 495 ?_
   refine lintz_pure 44 _ _ (.pointer (some ⟨b_t3, 0, none⟩)) rfl rfl rfl rfl rfl (fun w0 hb => by unfold mkOp; go_simp; all_goals (with_reducible rfl)) ?_
   simp only [Act.put, zA, zB, zC]
   refine zld (feF X) arrFe r_t3 rfl (fun i hi => ptF_x _ _ _ i hi) rfl rfl rfl rfl rfl (by omega) ?_
   simp only [Act.put, zA, zB, zC]
   refine lintz_pure 46 _ _ (.pointer (some ⟨b_t4, 16, none⟩)) rfl rfl rfl rfl rfl (fun w0 hb => by unfold mkOp; go_simp; all_goals (with_reducible rfl)) ?_
   simp only [Act.put, zA, zB, zC]
   refine zld (feF Q) arrFe r_t4 rfl (fun i hi => ptF_y _ _ _ i hi) rfl rfl rfl rfl rfl (by omega) ?_
   simp only [Act.put, zA, zB, zC]
   refine lintz_pure 49 _ _ (.pointer (some ⟨b_t4, 0, none⟩)) rfl rfl rfl rfl rfl (fun w0 hb => by unfold mkOp; go_simp; all_goals (with_reducible rfl)) ?_
   simp only [Act.put, zA, zB, zC]
   refine zld (feF V) arrFe r_t4 rfl (fun i hi => ptF_x _ _ _ i hi) rfl rfl rfl rfl rfl (by omega) ?_
   simp only [Act.put, zA, zB, zC]
   refine lintz_pure 51 _ _ (.pointer (some ⟨b_t3, 16, none⟩)) rfl rfl rfl rfl rfl (fun w0 hb => by unfold mkOp; go_simp; all_goals (with_reducible rfl)) ?_
   simp only [Act.put, zA, zB, zC]
   refine zld (feF Y) arrFe r_t3 rfl (fun i hi => ptF_y _ _ _ i hi) rfl rfl rfl rfl rfl (by omega) ?_
   simp only [Act.put, zA, zB, zC]
   refine lintz_leaf ?_
   refine po_start [.val (.agg (arrOf 16 (feF (mulP X Q)))), .val (.agg (arrOf 16 (feF (mulP V Y)))), .val (.agg (arrOf 16 (feF (addP (mulP X Q) (mulP V Y))))), .row 61 16 (u64f fun _ => 0) 4 (feF (addP (mulP X Q) (mulP V Y))), .nil] [] (fun i hi => absurd hi (Nat.not_lt_zero _)) (fun HWF m gz wa p az hp hm hmp hcl hdn hE hJ hS hO => ?_) (fun gz wa hE hJ => ?_)
   · rcases (show p = 0 ∨ p = 1 ∨ p = 2 ∨ p = 3 ∨ p = 4 by have h9 : p < 5 := hp; omega) with rfl | rfl | rfl | rfl | rfl
     · have e45 : az.eval (.tmp 45) = .agg (arrOf 16 (feF X)) := hO 45 rfl
       have e47 : az.eval (.tmp 47) = .agg (arrOf 16 (feF Q)) := hO 47 rfl
       exact po_k HWF hJ hE (refMul5_any X Q _ HX.out HQ.out) rfl rfl rfl rfl rfl rfl (ar2 e45 e47)
     · have e50 : az.eval (.tmp 50) = .agg (arrOf 16 (feF V)) := hO 50 rfl
       have e52 : az.eval (.tmp 52) = .agg (arrOf 16 (feF Y)) := hO 52 rfl
       exact po_k HWF hJ hE (refMul5_any V Y _ HV.out HY.out) rfl rfl rfl rfl rfl rfl (ar2 e50 e52)
     · exact po_k HWF hJ hE (refAdd5_any (mulP X Q) (mulP V Y) _ (mulP_lt _ _) (mulP_lt _ _)) rfl rfl rfl rfl rfl rfl (ar2 (po_e hS hdn hJ 0 48 rfl rfl rfl rfl) (po_e hS hdn hJ 1 53 rfl rfl rfl rfl))
     · exact po_alloc 14 _ 61 16 (u64f fun _ => 0) _ _ HWF hJ rfl (po_notyet hcl hmp (by rw [hm]; exact hp) (by decide)) hE rfl rfl rfl rfl rfl rfl zeroFe
     · exact po_sr 3 hm hp hmp hdn hJ hE rfl rfl rfl rfl rfl rfl rfl rfl (po_e0 hS hdn 3 14 rfl rfl rfl) (po_e hS hdn hJ 2 54 rfl rfl rfl rfl) arrFe (fun _ _ => rfl)
   · obtain ⟨b_t14, p_t14, lk_t14, r_t14, d_t14⟩ := hJ.row 3 (by decide) rfl (by decide)
     rw [putO_true _ _ _ _ _ rfl]
     simp only [putA, Nat.zero_add, Nat.reduceAdd]
     rw [hJ.tt 0 rfl, hJ.tt 1 rfl, hJ.tt 2 rfl, p_t14]
     simp only [Act.put, zA, zB, zC]
     refine po_end ?_
     have n_t3_t14 := zrn r_t3 lk_t14
     have n_t4_t14 := zrn r_t4 lk_t14
     have n_t5_t14 := zrn r_t5 lk_t14
     have n_t6_t14 := zrn r_t6 lk_t14
     have n_t7_t14 := zrn r_t7 lk_t14
     have n_t8_t14 := zrn r_t8 lk_t14
     have n_t9_t14 := zrn r_t9 lk_t14
     have n_t10_t14 := zrn r_t10 lk_t14
     have n_t11_t14 := zrn r_t11 lk_t14
     have n_t12_t14 := zrn r_t12 lk_t14
     have n_t13_t14 := zrn r_t13 lk_t14
     have l_t14 := zrl HGS Bw37 lk_t14
     replace r_t3 := Keep.row hE r_t3 rfl
     replace r_t4 := Keep.row hE r_t4 rfl
     replace r_t5 := Keep.row hE r_t5 rfl
     replace r_t6 := Keep.row hE r_t6 rfl
     replace r_t7 := Keep.row hE r_t7 rfl
     replace r_t8 := Keep.row hE r_t8 rfl
     replace r_t9 := Keep.row hE r_t9 rfl
     replace r_t10 := Keep.row hE r_t10 rfl
     replace r_t11 := Keep.row hE r_t11 rfl
     replace r_t12 := Keep.row hE r_t12 rfl
     replace r_t13 := Keep.row hE r_t13 rfl
     have Bw38 := hE.below Bw37 (HGS.out _ Bw37) rfl
     clear Bw37 hE hJ p_t14 lk_t14 d_t14
     go_wp2
     have Bw39 := Bw38.drew
     replace r_t3 := World.rowIs.drew r_t3
     replace r_t4 := World.rowIs.drew r_t4
     replace r_t5 := World.rowIs.drew r_t5
     replace r_t6 := World.rowIs.drew r_t6
     replace r_t7 := World.rowIs.drew r_t7
     replace r_t8 := World.rowIs.drew r_t8
     replace r_t9 := World.rowIs.drew r_t9
     replace r_t10 := World.rowIs.drew r_t10
     replace r_t11 := World.rowIs.drew r_t11
     replace r_t12 := World.rowIs.drew r_t12
     replace r_t13 := World.rowIs.drew r_t13
     replace r_t14 := World.rowIs.drew r_t14
     clear Bw38
     refine zpo [b_t6] (.rd 0 (.rd 1 (.rd 3 (.rd 5 (.rd 6 (.rd 8 (.rd 9 (.rd 12 (.rd 13 .done))))))))) #[true, true, false, true, false, true, true, false, true, true, false, false, true, true, false, false, false] [2, 4, 7, 10, 11, 14, 15, 16] [some 57, some 59, some 62, some 65, some 66, some 69, some 70, none] [[], [0], [1], [2], [2, 3], [4], [1, 4, 5], [0, 1, 2, 3, 4, 5, 6]] [(0, []), (1, []), (2, [0, 1]), (3, []), (4, [2, 3, 2]), (5, []), (6, []), (7, [5, 6, 4]), (8, []), (9, []), (10, [8, 9, 7]), (11, [7, 10, 10]), (12, []), (13, []), (14, [12, 13, 11]), (15, [4, 11, 14]), (16, [15, 14, 0, 1, 2, 3, 4, 5, 6, 7, 8, 9, 10, 11, 12, 13, 14, 15])] 13163 ?_
     refine zld (feF (mulP Z T)) arrFe r_t7 (cont1 (Ne.symm n_t6_t7)) (fun i hi => by rw [Nat.zero_add]) rfl rfl rfl rfl rfl (by omega) ?_
     refine zld (feF (subP p25 (mulP (mulP Z T) (mulP Z T)) (mulP D (mulP (mulP X V) (mulP Y Q))))) arrFe r_t12 (cont1 (Ne.symm n_t6_t12)) (fun i hi => by rw [Nat.zero_add]) rfl rfl rfl rfl rfl (by omega) ?_
     refine zld (feF (addP (mulP X Q) (mulP V Y))) arrFe r_t14 (cont1 (Ne.symm n_t6_t14)) (fun i hi => by rw [Nat.zero_add]) rfl rfl rfl rfl rfl (by omega) ?_
     simp only [Act.put, zA, zB, zC]
     refine zld (feF (mulP Z T)) arrFe r_t7 (cont1 (Ne.symm n_t6_t7)) (fun i hi => by rw [Nat.zero_add]) rfl rfl rfl rfl rfl (by omega) ?_
     refine zld (feF (addP (mulP (mulP Z T) (mulP Z T)) (mulP D (mulP (mulP X V) (mulP Y Q))))) arrFe r_t13 (cont1 (Ne.symm n_t6_t13)) (fun i hi => by rw [Nat.zero_add]) rfl rfl rfl rfl rfl (by omega) ?_
     refine zld (feF (mulP Y Q)) arrFe r_t10 (cont1 (Ne.symm n_t6_t10)) (fun i hi => by rw [Nat.zero_add]) rfl rfl rfl rfl rfl (by omega) ?_
     simp only [Act.put, zA, zB, zC]
     refine zld (feF (mulP X V)) arrFe r_t9 (cont1 (Ne.symm n_t6_t9)) (fun i hi => by rw [Nat.zero_add]) rfl rfl rfl rfl rfl (by omega) ?_
     refine zld (feF (subP p25 (mulP (mulP Z T) (mulP Z T)) (mulP D (mulP (mulP X V) (mulP Y Q))))) arrFe r_t12 (cont1 (Ne.symm n_t6_t12)) (fun i hi => by rw [Nat.zero_add]) rfl rfl rfl rfl rfl (by omega) ?_
     refine zld (feF (addP (mulP (mulP Z T) (mulP Z T)) (mulP D (mulP (mulP X V) (mulP Y Q))))) arrFe r_t13 (cont1 (Ne.symm n_t6_t13)) (fun i hi => by rw [Nat.zero_add]) rfl rfl rfl rfl rfl (by omega) ?_
     simp only [Act.put, zA, zB, zC]
     refine lintz_leaf ?_
     refine po_start [.val (.agg (arrOf 16 (feF (mulP (mulP Z T) (subP p25 (mulP (mulP Z T) (mulP Z T)) (mulP D (mulP (mulP X V) (mulP Y Q)))))))), .val (.agg (arrOf 16 (feF (mulP (mulP (mulP Z T) (subP p25 (mulP (mulP Z T) (mulP Z T)) (mulP D (mulP (mulP X V) (mulP Y Q))))) (addP (mulP X Q) (mulP V Y)))))), .val (.agg (arrOf 16 (feF (mulP (mulP Z T) (addP (mulP (mulP Z T) (mulP Z T)) (mulP D (mulP (mulP X V) (mulP Y Q)))))))), .val (.agg (arrOf 16 (feF (addP (mulP Y Q) (mulP X V))))), .val (.agg (arrOf 16 (feF (mulP (mulP (mulP Z T) (addP (mulP (mulP Z T) (mulP Z T)) (mulP D (mulP (mulP X V) (mulP Y Q))))) (addP (mulP Y Q) (mulP X V)))))), .val (.agg (arrOf 16 (feF (mulP (subP p25 (mulP (mulP Z T) (mulP Z T)) (mulP D (mulP (mulP X V) (mulP Y Q)))) (addP (mulP (mulP Z T) (mulP Z T)) (mulP D (mulP (mulP X V) (mulP Y Q)))))))), .val (.agg (arrOf 48 (ptF (mulP (mulP (mulP Z T) (subP p25 (mulP (mulP Z T) (mulP Z T)) (mulP D (mulP (mulP X V) (mulP Y Q))))) (addP (mulP X Q) (mulP V Y))) (mulP (mulP (mulP Z T) (addP (mulP (mulP Z T) (mulP Z T)) (mulP D (mulP (mulP X V) (mulP Y Q))))) (addP (mulP Y Q) (mulP X V))) (mulP (subP p25 (mulP (mulP Z T) (mulP Z T)) (mulP D (mulP (mulP X V) (mulP Y Q)))) (addP (mulP (mulP Z T) (mulP Z T)) (mulP D (mulP (mulP X V) (mulP Y Q)))))))), .nil] [⟨b_t6, 63, 48, (u64f fun _ => 0), 7, (ptF (mulP (mulP (mulP Z T) (subP p25 (mulP (mulP Z T) (mulP Z T)) (mulP D (mulP (mulP X V) (mulP Y Q))))) (addP (mulP X Q) (mulP V Y))) (mulP (mulP (mulP Z T) (addP (mulP (mulP Z T) (mulP Z T)) (mulP D (mulP (mulP X V) (mulP Y Q))))) (addP (mulP Y Q) (mulP X V))) (mulP (subP p25 (mulP (mulP Z T) (mulP Z T)) (mulP D (mulP (mulP X V) (mulP Y Q)))) (addP (mulP (mulP Z T) (mulP Z T)) (mulP D (mulP (mulP X V) (mulP Y Q))))))⟩] (fun i hi => by obtain rfl : i = 0 := by { have h9 : i < 1 := hi; omega }; exact r_t6) (fun HWF m gz wa p az hp hm hmp hcl hdn hE hJ hS hO => ?_) (fun gz wa hE hJ => ?_)
     · rcases (show p = 0 ∨ p = 1 ∨ p = 2 ∨ p = 3 ∨ p = 4 ∨ p = 5 ∨ p = 6 ∨ p = 7 by have h9 : p < 8 := hp; omega) with rfl | rfl | rfl | rfl | rfl | rfl | rfl | rfl
       · have e55 : az.eval (.tmp 55) = .agg (arrOf 16 (feF (mulP Z T))) := hO 55 rfl
         have e56 : az.eval (.tmp 56) = .agg (arrOf 16 (feF (subP p25 (mulP (mulP Z T) (mulP Z T)) (mulP D (mulP (mulP X V) (mulP Y Q)))))) := hO 56 rfl
         exact po_k HWF hJ hE (refMul5_any (mulP Z T) (subP p25 (mulP (mulP Z T) (mulP Z T)) (mulP D (mulP (mulP X V) (mulP Y Q)))) _ (mulP_lt _ _) (subP_lt _ _)) rfl rfl rfl rfl rfl rfl (ar2 e55 e56)
       · have e58 : az.eval (.tmp 58) = .agg (arrOf 16 (feF (addP (mulP X Q) (mulP V Y)))) := hO 58 rfl
         exact po_k HWF hJ hE (refMul5_any (mulP (mulP Z T) (subP p25 (mulP (mulP Z T) (mulP Z T)) (mulP D (mulP (mulP X V) (mulP Y Q))))) (addP (mulP X Q) (mulP V Y)) _ (mulP_lt _ _) (addP_lt _ _)) rfl rfl rfl rfl rfl rfl (ar2 (po_e hS hdn hJ 0 57 rfl rfl rfl rfl) e58)
       · have e60 : az.eval (.tmp 60) = .agg (arrOf 16 (feF (mulP Z T))) := hO 60 rfl
         have e61 : az.eval (.tmp 61) = .agg (arrOf 16 (feF (addP (mulP (mulP Z T) (mulP Z T)) (mulP D (mulP (mulP X V) (mulP Y Q)))))) := hO 61 rfl
         exact po_k HWF hJ hE (refMul5_any (mulP Z T) (addP (mulP (mulP Z T) (mulP Z T)) (mulP D (mulP (mulP X V) (mulP Y Q)))) _ (mulP_lt _ _) (addP_lt _ _)) rfl rfl rfl rfl rfl rfl (ar2 e60 e61)
       · have e63 : az.eval (.tmp 63) = .agg (arrOf 16 (feF (mulP Y Q))) := hO 63 rfl
         have e64 : az.eval (.tmp 64) = .agg (arrOf 16 (feF (mulP X V))) := hO 64 rfl
         exact po_k HWF hJ hE (refAdd5_any (mulP Y Q) (mulP X V) _ (mulP_lt _ _) (mulP_lt _ _)) rfl rfl rfl rfl rfl rfl (ar2 e63 e64)
       · exact po_k HWF hJ hE (refMul5_any (mulP (mulP Z T) (addP (mulP (mulP Z T) (mulP Z T)) (mulP D (mulP (mulP X V) (mulP Y Q))))) (addP (mulP Y Q) (mulP X V)) _ (mulP_lt _ _) (addP_lt _ _)) rfl rfl rfl rfl rfl rfl (ar2 (po_e hS hdn hJ 2 62 rfl rfl rfl rfl) (po_e hS hdn hJ 3 65 rfl rfl rfl rfl))
       · have e67 : az.eval (.tmp 67) = .agg (arrOf 16 (feF (subP p25 (mulP (mulP Z T) (mulP Z T)) (mulP D (mulP (mulP X V) (mulP Y Q)))))) := hO 67 rfl
         have e68 : az.eval (.tmp 68) = .agg (arrOf 16 (feF (addP (mulP (mulP Z T) (mulP Z T)) (mulP D (mulP (mulP X V) (mulP Y Q)))))) := hO 68 rfl
         exact po_k HWF hJ hE (refMul5_any (subP p25 (mulP (mulP Z T) (mulP Z T)) (mulP D (mulP (mulP X V) (mulP Y Q)))) (addP (mulP (mulP Z T) (mulP Z T)) (mulP D (mulP (mulP X V) (mulP Y Q)))) _ (subP_lt _ _) (addP_lt _ _)) rfl rfl rfl rfl rfl rfl (ar2 e67 e68)
       · have e59 := po_e hS hdn hJ 1 59 rfl rfl rfl rfl
         have e66 := po_e hS hdn hJ 4 66 rfl rfl rfl rfl
         have e69 := po_e hS hdn hJ 5 69 rfl rfl rfl rfl
         exact po_p _ HWF hJ hE rfl rfl rfl rfl rfl rfl rfl (exec_build_as _ _ _ (by simp only [List.map_toArray, List.map_cons, List.map_nil, e59, e66, e69]; exact builtP (mulP (mulP (mulP Z T) (subP p25 (mulP (mulP Z T) (mulP Z T)) (mulP D (mulP (mulP X V) (mulP Y Q))))) (addP (mulP X Q) (mulP V Y))) (mulP (mulP (mulP Z T) (addP (mulP (mulP Z T) (mulP Z T)) (mulP D (mulP (mulP X V) (mulP Y Q))))) (addP (mulP Y Q) (mulP X V))) (mulP (subP p25 (mulP (mulP Z T) (mulP Z T)) (mulP D (mulP (mulP X V) (mulP Y Q)))) (addP (mulP (mulP Z T) (mulP Z T)) (mulP D (mulP (mulP X V) (mulP Y Q)))))))
       · exact po_storeOld 0 (.tmp 6) (.tmp 70) 63 b_t6 48 _ (by rw [hm]; exact hp) hmp hJ rfl (show 0 < 1 by decide) rfl rfl rfl rfl rfl (World.rowIs.lt r_t6) (by simp) (by kernel_rfl) po_ne1 hE rfl rfl rfl rfl rfl (hO 6 rfl) (po_e hS hdn hJ 6 70 rfl rfl rfl rfl) arrP (fun j _ => ptF_one _ _ _ j)
     · rw [putO_true _ _ _ _ _ rfl]
       simp only [putA, Nat.zero_add, Nat.reduceAdd]
       rw [hJ.tt 0 rfl, hJ.tt 1 rfl, hJ.tt 2 rfl, hJ.tt 3 rfl, hJ.tt 4 rfl, hJ.tt 5 rfl, hJ.tt 6 rfl]
       simp only [Act.put, zA, zB, zC]
       refine po_end ?_
       replace r_t3 := Keep.row hE r_t3 (cont1 n_t3_t6)
       replace r_t4 := Keep.row hE r_t4 (cont1 n_t4_t6)
       replace r_t5 := Keep.row hE r_t5 (cont1 n_t5_t6)
       replace r_t6 : wa.rowIs b_t6 63 48 (ptF (mulP (mulP (mulP Z T) (subP p25 (mulP (mulP Z T) (mulP Z T)) (mulP D (mulP (mulP X V) (mulP Y Q))))) (addP (mulP X Q) (mulP V Y))) (mulP (mulP (mulP Z T) (addP (mulP (mulP Z T) (mulP Z T)) (mulP D (mulP (mulP X V) (mulP Y Q))))) (addP (mulP Y Q) (mulP X V))) (mulP (subP p25 (mulP (mulP Z T) (mulP Z T)) (mulP D (mulP (mulP X V) (mulP Y Q)))) (addP (mulP (mulP Z T) (mulP Z T)) (mulP D (mulP (mulP X V) (mulP Y Q)))))) := hJ.old 0 (show 0 < 1 by decide) (show 7 < 8 by decide)
       replace r_t7 := Keep.row hE r_t7 (cont1 (Ne.symm n_t6_t7))
       replace r_t8 := Keep.row hE r_t8 (cont1 (Ne.symm n_t6_t8))
       replace r_t9 := Keep.row hE r_t9 (cont1 (Ne.symm n_t6_t9))
       replace r_t10 := Keep.row hE r_t10 (cont1 (Ne.symm n_t6_t10))
       replace r_t11 := Keep.row hE r_t11 (cont1 (Ne.symm n_t6_t11))
       replace r_t12 := Keep.row hE r_t12 (cont1 (Ne.symm n_t6_t12))
       replace r_t13 := Keep.row hE r_t13 (cont1 (Ne.symm n_t6_t13))
       replace r_t14 := Keep.row hE r_t14 (cont1 (Ne.symm n_t6_t14))
       have Bw40 := hE.below Bw39 (HGS.out _ Bw39) (keep_all1 l_t6)
       clear Bw39 hE hJ 
       go_wp2
       exact ret_cell_as _ rfl arrP r_t6 rfl (by omega) (fun _ _ => rfl) rfl ⟨rfl, Bw40⟩
theorem refPadd_v (D X Y Z V Q T : Nat) (w : World) {x y z : Nat} (h : padd D (X, Y, Z) (V, Q, T) = (x, y, z)) (HD : D < p25) (HX : X < p25) (HY : Y < p25) (HZ : Z < p25) (HV : V < p25) (HQ : Q < p25) (HT : T < p25) :
   Calls Tryz.prog 81 #[.agg (arrOf 48 (ptF X Y Z)), .agg (arrOf 48 (ptF V Q T)), .agg (arrOf 16 (feF D))] w fun e w' => e = .returned (.agg (arrOf 48 (ptF x y z))) ∧ Below w.heap.size w w' := by
 have g := refPadd_any X Y Z V Q T D w HX HY HZ HV HQ HT HD
 rw [h] at g
 exact g
theorem padd_vlt {D : Nat} {a b : Nat × Nat × Nat} {x y z : Nat} (h : padd D a b = (x, y, z)) : x < p25 ∧ y < p25 ∧ z < p25 := by
 have g := padd_lt D a b
 rw [h] at g
 exact g
set_option maxHeartbeats 4000000 in
set_option maxRecDepth 10000 in
theorem refAddPt_any (X Y Z V Q T : Nat) (w : World) (HX : X < p25) (HY : Y < p25) (HZ : Z < p25) (HV : V < p25) (HQ : Q < p25) (HT : T < p25) : Calls Tryz.prog 48 #[.agg (arrOf 48 (ptF X Y Z)), .agg (arrOf 48 (ptF V Q T))] w fun e w' => e = .returned (.agg (arrOf 48 (ptF (padd dP (X, Y, Z) (V, Q, T)).1 (padd dP (X, Y, Z) (V, Q, T)).2.1 (padd dP (X, Y, Z) (V, Q, T)).2.2))) ∧ Below w.heap.size w w' := by
 have Bw0 := Below.refl w.heap.size w
 have HGS : Hid (∀ wq : World, Below w.heap.size w wq → w.heap.size ≤ wq.heap.size) := Lib.hid fun wq h => h.size
 replace HX := Lib.hid HX
 replace HY := Lib.hid HY
 replace HZ := Lib.hid HZ
 replace HV := Lib.hid HV
 replace HQ := Lib.hid HQ
 replace HT := Lib.hid HT
 rcases hA : padd dP (X, Y, Z) (V, Q, T) with ⟨x, y, z⟩
 replace hA := Lib.hid hA
 dsimp only
 go_enter Tryz.func48, Tryz.ntmps48
 go_wp2_with (first
   | (have hgo := Bw0; clear hgo
      refine wpList_box_row rfl 63 (.tmp 0) rfl 48 (ptF X Y Z) rfl ?_
      intro b_t2 w1 lk r_t2 kk
      have l_t2 := zrl HGS Bw0 lk
      have Bw1 := zbt HGS Bw0 kk
      clear Bw0 kk lk)
   | (have hgo := Bw1; clear hgo
      refine wpList_box_row rfl 63 (.tmp 1) rfl 48 (ptF V Q T) rfl ?_
      intro b_t3 w2 lk r_t3 kk
      have n_t2_t3 := zrn r_t2 lk
      have l_t3 := zrl HGS Bw1 lk
      replace r_t2 := zrb r_t2 kk
      have Bw2 := zbt HGS Bw1 kk
      clear Bw1 kk lk)
   | (have hgo := Bw2; clear hgo
      refine wpList_alloc_row rfl 63 rfl 48 (u64f fun _ => 0) zeroPt ?_
      intro b_t4 w3 lk r_t4 kk
      have n_t2_t4 := zrn r_t2 lk
      have n_t3_t4 := zrn r_t3 lk
      have l_t4 := zrl HGS Bw2 lk
      replace r_t2 := zrb r_t2 kk
      replace r_t3 := zrb r_t3 kk
      have Bw3 := zbt HGS Bw2 kk
      clear Bw2 kk lk))
 have Bw4 := Bw3.drew
 replace r_t2 := World.rowIs.drew r_t2
 replace r_t3 := World.rowIs.drew r_t3
 replace r_t4 := World.rowIs.drew r_t4
 clear Bw3
 refine zpo [b_t4] (.rd 0 (.rd 1 .done)) #[true, true, false, false, false] [2, 3, 4] [some 7, some 8, none] [[], [0], [0, 1]] [(0, []), (1, []), (2, []), (3, [0, 1, 2, 2]), (4, [3, 3, 0, 1, 2, 3])] 3 ?_
 refine zld (ptF X Y Z) arrP r_t2 (cont1 n_t2_t4) (fun i hi => by rw [Nat.zero_add]) rfl rfl rfl rfl rfl (by omega) ?_
 refine zld (ptF V Q T) arrP r_t3 (cont1 n_t3_t4) (fun i hi => by rw [Nat.zero_add]) rfl rfl rfl rfl rfl (by omega) ?_
 simp only [Act.put, zA, zB, zC]
 refine lintz_leaf ?_
 refine po_start [.val (.agg (arrOf 16 (feF dP))), .val (.agg (arrOf 48 (ptF x y z))), .nil] [⟨b_t4, 63, 48, (u64f fun _ => 0), 2, (ptF x y z)⟩] (fun i hi => by obtain rfl : i = 0 := by { have h9 : i < 1 := hi; omega }; exact r_t4) (fun HWF m gz wa p az hp hm hmp hcl hdn hE hJ hS hO => ?_) (fun gz wa hE hJ => ?_)
 · rcases (show p = 0 ∨ p = 1 ∨ p = 2 by have h9 : p < 3 := hp; omega) with rfl | rfl | rfl
   · exact po_k HWF hJ hE (curve_any _) rfl rfl rfl rfl rfl rfl (ar0)
   · have e5 : az.eval (.tmp 5) = .agg (arrOf 48 (ptF X Y Z)) := hO 5 rfl
     have e6 : az.eval (.tmp 6) = .agg (arrOf 48 (ptF V Q T)) := hO 6 rfl
     exact po_k HWF hJ hE (refPadd_v dP X Y Z V Q T _ hA.out dP_lt HX.out HY.out HZ.out HV.out HQ.out HT.out) rfl rfl rfl rfl rfl rfl (ar3 e5 e6 (po_e hS hdn hJ 0 7 rfl rfl rfl rfl))
   · exact po_storeOld 0 (.tmp 4) (.tmp 8) 63 b_t4 48 _ (by rw [hm]; exact hp) hmp hJ rfl (show 0 < 1 by decide) rfl rfl rfl rfl rfl (World.rowIs.lt r_t4) (by simp) (by kernel_rfl) po_ne1 hE rfl rfl rfl rfl rfl (hO 4 rfl) (po_e hS hdn hJ 1 8 rfl rfl rfl rfl) arrP (fun j _ => ptF_one _ _ _ j)
 · rw [putO_true _ _ _ _ _ rfl]
   simp only [putA, Nat.zero_add, Nat.reduceAdd]
   rw [hJ.tt 0 rfl, hJ.tt 1 rfl]
   simp only [Act.put, zA, zB, zC]
   refine po_end ?_
   replace r_t2 := Keep.row hE r_t2 (cont1 n_t2_t4)
   replace r_t3 := Keep.row hE r_t3 (cont1 n_t3_t4)
   replace r_t4 : wa.rowIs b_t4 63 48 (ptF x y z) := hJ.old 0 (show 0 < 1 by decide) (show 2 < 3 by decide)
   have Bw5 := hE.below Bw4 (HGS.out _ Bw4) (keep_all1 l_t4)
   clear Bw4 hE hJ 
   go_wp2
   exact ret_cell_as _ rfl arrP r_t4 rfl (by omega) (fun _ _ => rfl) rfl ⟨rfl, Bw5⟩
set_option maxHeartbeats 4000000 in
set_option maxRecDepth 10000 in
theorem refSame_any (X Y Z V Q T : Nat) (w : World) (HX : X < p25) (HY : Y < p25) (HZ : Z < p25) (HV : V < p25) (HQ : Q < p25) (HT : T < p25) : Calls Tryz.prog 47 #[.agg (arrOf 48 (ptF X Y Z)), .agg (arrOf 48 (ptF V Q T))] w fun e w' => e = .returned (.bool (pSame (X, Y, Z) (V, Q, T))) ∧ Below w.heap.size w w' := by
 have Bw0 := Below.refl w.heap.size w
 have HGS : Hid (∀ wq : World, Below w.heap.size w wq → w.heap.size ≤ wq.heap.size) := Lib.hid fun wq h => h.size
 replace HX := Lib.hid HX
 replace HY := Lib.hid HY
 replace HZ := Lib.hid HZ
 replace HV := Lib.hid HV
 replace HQ := Lib.hid HQ
 replace HT := Lib.hid HT
 unfold pSame
 dsimp only
 by_cases h1 : mulP X T = mulP V Z
 · have H1 := Lib.hid h1
   by_cases h2 : mulP Y T = mulP Q Z
   · have H2 := Lib.hid h2
     rw [decide_eq_true h1, decide_eq_true h2]
     clear h1 h2
     go_enter Tryz.func47, Tryz.ntmps47
     go_wp2_with (first
       | (have hgo := Bw0; clear hgo
          refine wpList_box_row rfl 63 (.tmp 0) rfl 48 (ptF X Y Z) rfl ?_
          intro b_t2 w1 lk r_t2 kk
          have l_t2 := zrl HGS Bw0 lk
          have Bw1 := zbt HGS Bw0 kk
          clear Bw0 kk lk)
       | (have hgo := Bw1; clear hgo
          refine wpList_box_row rfl 63 (.tmp 1) rfl 48 (ptF V Q T) rfl ?_
          intro b_t3 w2 lk r_t3 kk
          have n_t2_t3 := zrn r_t2 lk
          have l_t3 := zrl HGS Bw1 lk
          replace r_t2 := zrb r_t2 kk
          have Bw2 := zbt HGS Bw1 kk
          clear Bw1 kk lk))
     have Bw3 := Bw2.drew
     replace r_t2 := World.rowIs.drew r_t2
     replace r_t3 := World.rowIs.drew r_t3
     clear Bw2
     refine zpo [] (.rd 0 (.rd 1 (.rd 2 (.rd 3 (.rd 5 (.rd 6 (.rd 7 (.rd 8 .done)))))))) #[true, true, true, true, false, true, true, true, true, false, false, false, false, false, false, false, false, false, false, false, false, false, false, false, false] [4, 9, 10, 11, 12, 13, 14, 15, 16, 17, 18, 19, 20, 21, 22, 23, 24] [some 9, some 14, some 15, some 16, some 17, some 18, some 19, some 20, some 21, some 22, some 23, some 24, some 25, some 26, some 27, some 28, some 4] [[], [0], [0, 1], [1, 2], [3], [3, 4], [3], [3, 6], [3, 5, 7], [3], [3, 9], [3], [3, 11], [3, 8, 10, 12], [3, 8, 13], [3, 14], [0, 1, 2, 3, 4, 5, 6, 7, 8, 9, 10, 11, 12, 13, 14, 15]] [(0, []), (1, [0]), (2, []), (3, [2]), (4, [1, 3]), (5, []), (6, [5]), (7, []), (8, [7]), (9, [6, 8, 4]), (10, [4, 9]), (11, [10, 9]), (12, [11]), (13, [12, 11]), (14, [11]), (15, [14, 11]), (16, [13, 15, 11, 11]), (17, [11]), (18, [17, 11]), (19, [11]), (20, [19, 11]), (21, [18, 20, 16, 11]), (22, [16, 21, 11]), (23, [11, 22]), (24, [23, 21, 0, 1, 2, 3, 4, 5, 6, 7, 8, 9, 10, 11, 12, 13, 14, 15, 16, 17, 18, 19, 20, 21, 22, 23])] 495 ?_
     refine lintz_pure 5 _ _ (.pointer (some ⟨b_t2, 0, none⟩)) rfl rfl rfl rfl rfl (fun w0 hb => by unfold mkOp; go_simp; all_goals (with_reducible rfl)) ?_
     simp only [Act.put, zA, zB, zC]
     refine zld (feF X) arrFe r_t2 rfl (fun i hi => ptF_x _ _ _ i hi) rfl rfl rfl rfl rfl (by omega) ?_
     simp only [Act.put, zA, zB, zC]
     refine lintz_pure 7 _ _ (.pointer (some ⟨b_t3, 32, none⟩)) rfl rfl rfl rfl rfl (fun w0 hb => by unfold mkOp; go_simp; all_goals (with_reducible rfl)) ?_
     simp only [Act.put, zA, zB, zC]
     refine zld (feF T) arrFe r_t3 rfl (fun i hi => ptF_z _ _ _ i hi) rfl rfl rfl rfl rfl (by omega) ?_
     simp only [Act.put, zA, zB, zC]
     refine lintz_pure 10 _ _ (.pointer (some ⟨b_t3, 0, none⟩)) rfl rfl rfl rfl rfl (fun w0 hb => by unfold mkOp; go_simp; all_goals (with_reducible rfl)) ?_
     simp only [Act.put, zA, zB, zC]
     refine zld (feF V) arrFe r_t3 rfl (fun i hi => ptF_x _ _ _ i hi) rfl rfl rfl rfl rfl (by omega) ?_
     simp only [Act.put, zA, zB, zC]
     refine lintz_pure 12 _ _ (.pointer (some ⟨b_t2, 32, none⟩)) rfl rfl rfl rfl rfl (fun w0 hb => by unfold mkOp; go_simp; all_goals (with_reducible rfl)) ?_
     simp only [Act.put, zA, zB, zC]
     refine zld (feF Z) arrFe r_t2 rfl (fun i hi => ptF_z _ _ _ i hi) rfl rfl rfl rfl rfl (by omega) ?_
     simp only [Act.put, zA, zB, zC]
     refine lintz_leaf ?_
     refine po_start [.val (.agg (arrOf 16 (feF (mulP X T)))), .val (.agg (arrOf 16 (feF (mulP V Z)))), .val (.bool true), .val (.bool true), .val (.pointer (some ⟨b_t2, 16, none⟩)), .val (.agg (arrOf 16 (feF Y))), .val (.pointer (some ⟨b_t3, 32, none⟩)), .val (.agg (arrOf 16 (feF T))), .val (.agg (arrOf 16 (feF (mulP Y T)))), .val (.pointer (some ⟨b_t3, 16, none⟩)), .val (.agg (arrOf 16 (feF Q))), .val (.pointer (some ⟨b_t2, 32, none⟩)), .val (.agg (arrOf 16 (feF Z))), .val (.agg (arrOf 16 (feF (mulP Q Z)))), .val (.bool true), .val (.bool true), .val (.bool true)] [] (fun i hi => absurd hi (Nat.not_lt_zero _)) (fun HWF m gz wa p az hp hm hmp hcl hdn hE hJ hS hO => ?_) (fun gz wa hE hJ => ?_)
     · rcases (show p = 0 ∨ p = 1 ∨ p = 2 ∨ p = 3 ∨ p = 4 ∨ p = 5 ∨ p = 6 ∨ p = 7 ∨ p = 8 ∨ p = 9 ∨ p = 10 ∨ p = 11 ∨ p = 12 ∨ p = 13 ∨ p = 14 ∨ p = 15 ∨ p = 16 by have h9 : p < 17 := hp; omega) with rfl | rfl | rfl | rfl | rfl | rfl | rfl | rfl | rfl | rfl | rfl | rfl | rfl | rfl | rfl | rfl | rfl
       · have e6 : az.eval (.tmp 6) = .agg (arrOf 16 (feF X)) := hO 6 rfl
         have e8 : az.eval (.tmp 8) = .agg (arrOf 16 (feF T)) := hO 8 rfl
         exact po_k HWF hJ hE (refMul5_any X T _ HX.out HT.out) rfl rfl rfl rfl rfl rfl (ar2 e6 e8)
       · have e11 : az.eval (.tmp 11) = .agg (arrOf 16 (feF V)) := hO 11 rfl
         have e13 : az.eval (.tmp 13) = .agg (arrOf 16 (feF Z)) := hO 13 rfl
         exact po_k HWF hJ hE (refMul5_any V Z _ HV.out HZ.out) rfl rfl rfl rfl rfl rfl (ar2 e11 e13)
       · exact po_p _ HWF hJ hE rfl rfl rfl rfl rfl rfl rfl (exec_Fe_eq2 _ _ _ _ (mulP_lt _ _) (mulP_lt _ _) (decide_eq_true H1.out) (po_e hS hdn hJ 0 9 rfl rfl rfl rfl) (po_e hS hdn hJ 1 14 rfl rfl rfl rfl))
       · exact po_p _ HWF hJ hE rfl rfl rfl rfl rfl rfl rfl (x_move (po_e hS hdn hJ 2 15 rfl rfl rfl rfl))
       · have e16 := po_e hS hdn hJ 3 16 rfl rfl rfl rfl
         have e2 : az.eval (.tmp 2) = .pointer (some ⟨b_t2, 0, none⟩) := hO 2 rfl
         exact po_p (Op.fieldAddr 63 (Operand.tmp 2) 1) HWF hJ hE rfl rfl rfl rfl rfl rfl (wanted_of rfl rfl e16) (by first | (simp only [execOp, mkOp, eval_const, e2]; done) | (simp only [execOp, mkOp, eval_const, e2]; go_simp))
       · exact po_p _ HWF hJ hE rfl rfl rfl rfl rfl rfl (wanted_of rfl rfl (po_e hS hdn hJ 3 16 rfl rfl rfl rfl)) (exec_load_as _ _ _ _ (feF Y) (po_e hS hdn hJ 4 17 rfl rfl rfl rfl) arrFe (Keep.row hE r_t2 rfl) (by omega) (fun i hi => ptF_y _ _ _ i hi))
       · have e16 := po_e hS hdn hJ 3 16 rfl rfl rfl rfl
         have e3 : az.eval (.tmp 3) = .pointer (some ⟨b_t3, 0, none⟩) := hO 3 rfl
         exact po_p (Op.fieldAddr 63 (Operand.tmp 3) 2) HWF hJ hE rfl rfl rfl rfl rfl rfl (wanted_of rfl rfl e16) (by first | (simp only [execOp, mkOp, eval_const, e3]; done) | (simp only [execOp, mkOp, eval_const, e3]; go_simp))
       · exact po_p _ HWF hJ hE rfl rfl rfl rfl rfl rfl (wanted_of rfl rfl (po_e hS hdn hJ 3 16 rfl rfl rfl rfl)) (exec_load_as _ _ _ _ (feF T) (po_e hS hdn hJ 6 19 rfl rfl rfl rfl) arrFe (Keep.row hE r_t3 rfl) (by omega) (fun i hi => ptF_z _ _ _ i hi))
       · exact po_k HWF hJ hE (refMul5_any Y T _ HY.out HT.out) rfl rfl rfl rfl rfl (wanted_of rfl rfl (po_e hS hdn hJ 3 16 rfl rfl rfl rfl)) (ar2 (po_e hS hdn hJ 5 18 rfl rfl rfl rfl) (po_e hS hdn hJ 7 20 rfl rfl rfl rfl))
       · have e16 := po_e hS hdn hJ 3 16 rfl rfl rfl rfl
         have e3 : az.eval (.tmp 3) = .pointer (some ⟨b_t3, 0, none⟩) := hO 3 rfl
         exact po_p (Op.fieldAddr 63 (Operand.tmp 3) 1) HWF hJ hE rfl rfl rfl rfl rfl rfl (wanted_of rfl rfl e16) (by first | (simp only [execOp, mkOp, eval_const, e3]; done) | (simp only [execOp, mkOp, eval_const, e3]; go_simp))
       · exact po_p _ HWF hJ hE rfl rfl rfl rfl rfl rfl (wanted_of rfl rfl (po_e hS hdn hJ 3 16 rfl rfl rfl rfl)) (exec_load_as _ _ _ _ (feF Q) (po_e hS hdn hJ 9 22 rfl rfl rfl rfl) arrFe (Keep.row hE r_t3 rfl) (by omega) (fun i hi => ptF_y _ _ _ i hi))
       · have e16 := po_e hS hdn hJ 3 16 rfl rfl rfl rfl
         have e2 : az.eval (.tmp 2) = .pointer (some ⟨b_t2, 0, none⟩) := hO 2 rfl
         exact po_p (Op.fieldAddr 63 (Operand.tmp 2) 2) HWF hJ hE rfl rfl rfl rfl rfl rfl (wanted_of rfl rfl e16) (by first | (simp only [execOp, mkOp, eval_const, e2]; done) | (simp only [execOp, mkOp, eval_const, e2]; go_simp))
       · exact po_p _ HWF hJ hE rfl rfl rfl rfl rfl rfl (wanted_of rfl rfl (po_e hS hdn hJ 3 16 rfl rfl rfl rfl)) (exec_load_as _ _ _ _ (feF Z) (po_e hS hdn hJ 11 24 rfl rfl rfl rfl) arrFe (Keep.row hE r_t2 rfl) (by omega) (fun i hi => ptF_z _ _ _ i hi))
       · exact po_k HWF hJ hE (refMul5_any Q Z _ HQ.out HZ.out) rfl rfl rfl rfl rfl (wanted_of rfl rfl (po_e hS hdn hJ 3 16 rfl rfl rfl rfl)) (ar2 (po_e hS hdn hJ 10 23 rfl rfl rfl rfl) (po_e hS hdn hJ 12 25 rfl rfl rfl rfl))
       · exact po_p _ HWF hJ hE rfl rfl rfl rfl rfl rfl (wanted_of rfl rfl (po_e hS hdn hJ 3 16 rfl rfl rfl rfl)) (exec_Fe_eq2 _ _ _ _ (mulP_lt _ _) (mulP_lt _ _) (decide_eq_true H2.out) (po_e hS hdn hJ 8 21 rfl rfl rfl rfl) (po_e hS hdn hJ 13 26 rfl rfl rfl rfl))
       · have e16 := po_e hS hdn hJ 3 16 rfl rfl rfl rfl
         have e27 := po_e hS hdn hJ 14 27 rfl rfl rfl rfl
         exact po_p (Op.pick (Operand.tmp 16) (Operand.tmp 27) (Operand.const (Value.bool false))) HWF hJ hE rfl rfl rfl rfl rfl rfl rfl (by first | (simp only [execOp, mkOp, eval_const, e16, e27]; done) | (simp only [execOp, mkOp, eval_const, e16, e27]; go_simp))
       · exact po_p _ HWF hJ hE rfl rfl rfl rfl rfl rfl rfl (x_assign (po_e hS hdn hJ 15 28 rfl rfl rfl rfl))
     · rw [putO_true _ _ _ _ _ rfl]
       simp only [putA, Nat.zero_add, Nat.reduceAdd]
       rw [hJ.tt 0 rfl, hJ.tt 1 rfl, hJ.tt 2 rfl, hJ.tt 3 rfl, hJ.tt 4 rfl, hJ.tt 5 rfl, hJ.tt 6 rfl, hJ.tt 7 rfl, hJ.tt 8 rfl, hJ.tt 9 rfl, hJ.tt 10 rfl, hJ.tt 11 rfl, hJ.tt 12 rfl, hJ.tt 13 rfl, hJ.tt 14 rfl, hJ.tt 15 rfl, hJ.tt 16 rfl]
       simp only [Act.put, zA, zB, zC]
       refine po_end ?_
       replace r_t2 := Keep.row hE r_t2 rfl
       replace r_t3 := Keep.row hE r_t3 rfl
       have Bw4 := hE.below Bw3 (HGS.out _ Bw3) rfl
       clear Bw3 hE hJ 
       go_wp2
       go_ret
       exact ⟨rfl, Bw4⟩
   · have H2 := Lib.hid h2
     rw [decide_eq_true h1, decide_eq_false h2]
     clear h1 h2
     go_enter Tryz.func47, Tryz.ntmps47
     go_wp2_with (first
       | (have hgo := Bw0; clear hgo
          refine wpList_box_row rfl 63 (.tmp 0) rfl 48 (ptF X Y Z) rfl ?_
          intro b_t2 w1 lk r_t2 kk
          have l_t2 := zrl HGS Bw0 lk
          have Bw1 := zbt HGS Bw0 kk
          clear Bw0 kk lk)
       | (have hgo := Bw1; clear hgo
          refine wpList_box_row rfl 63 (.tmp 1) rfl 48 (ptF V Q T) rfl ?_
          intro b_t3 w2 lk r_t3 kk
          have n_t2_t3 := zrn r_t2 lk
          have l_t3 := zrl HGS Bw1 lk
          replace r_t2 := zrb r_t2 kk
          have Bw2 := zbt HGS Bw1 kk
          clear Bw1 kk lk))
     have Bw3 := Bw2.drew
     replace r_t2 := World.rowIs.drew r_t2
     replace r_t3 := World.rowIs.drew r_t3
     clear Bw2
     refine zpo [] (.rd 0 (.rd 1 (.rd 2 (.rd 3 (.rd 5 (.rd 6 (.rd 7 (.rd 8 .done)))))))) #[true, true, true, true, false, true, true, true, true, false, false, false, false, false, false, false, false, false, false, false, false, false, false, false, false] [4, 9, 10, 11, 12, 13, 14, 15, 16, 17, 18, 19, 20, 21, 22, 23, 24] [some 9, some 14, some 15, some 16, some 17, some 18, some 19, some 20, some 21, some 22, some 23, some 24, some 25, some 26, some 27, some 28, some 4] [[], [0], [0, 1], [1, 2], [3], [3, 4], [3], [3, 6], [3, 5, 7], [3], [3, 9], [3], [3, 11], [3, 8, 10, 12], [3, 8, 13], [3, 14], [0, 1, 2, 3, 4, 5, 6, 7, 8, 9, 10, 11, 12, 13, 14, 15]] [(0, []), (1, [0]), (2, []), (3, [2]), (4, [1, 3]), (5, []), (6, [5]), (7, []), (8, [7]), (9, [6, 8, 4]), (10, [4, 9]), (11, [10, 9]), (12, [11]), (13, [12, 11]), (14, [11]), (15, [14, 11]), (16, [13, 15, 11, 11]), (17, [11]), (18, [17, 11]), (19, [11]), (20, [19, 11]), (21, [18, 20, 16, 11]), (22, [16, 21, 11]), (23, [11, 22]), (24, [23, 21, 0, 1, 2, 3, 4, 5, 6, 7, 8, 9, 10, 11, 12, 13, 14, 15, 16, 17, 18, 19, 20, 21, 22, 23])] 495 ?_
     refine lintz_pure 5 _ _ (.pointer (some ⟨b_t2, 0, none⟩)) rfl rfl rfl rfl rfl (fun w0 hb => by unfold mkOp; go_simp; all_goals (with_reducible rfl)) ?_
     simp only [Act.put, zA, zB, zC]
     refine zld (feF X) arrFe r_t2 rfl (fun i hi => ptF_x _ _ _ i hi) rfl rfl rfl rfl rfl (by omega) ?_
     simp only [Act.put, zA, zB, zC]
     refine lintz_pure 7 _ _ (.pointer (some ⟨b_t3, 32, none⟩)) rfl rfl rfl rfl rfl (fun w0 hb => by unfold mkOp; go_simp; all_goals (with_reducible rfl)) ?_
     simp only [Act.put, zA, zB, zC]
     refine zld (feF T) arrFe r_t3 rfl (fun i hi => ptF_z _ _ _ i hi) rfl rfl rfl rfl rfl (by omega) ?_
     simp only [Act.put, zA, zB, zC]
     refine lintz_pure 10 _ _ (.pointer (some ⟨b_t3, 0, none⟩)) rfl rfl rfl rfl rfl (fun w0 hb => by unfold mkOp; go_simp; all_goals (with_reducible rfl)) ?_
     simp only [Act.put, zA, zB, zC]
     refine zld (feF V) arrFe r_t3 rfl (fun i hi => ptF_x _ _ _ i hi) rfl rfl rfl rfl rfl (by omega) ?_
     simp only [Act.put, zA, zB, zC]
     refine lintz_pure 12 _ _ (.pointer (some ⟨b_t2, 32, none⟩)) rfl rfl rfl rfl rfl (fun w0 hb => by unfold mkOp; go_simp; all_goals (with_reducible rfl)) ?_
     simp only [Act.put, zA, zB, zC]
     refine zld (feF Z) arrFe r_t2 rfl (fun i hi => ptF_z _ _ _ i hi) rfl rfl rfl rfl rfl (by omega) ?_
     simp only [Act.put, zA, zB, zC]
     refine lintz_leaf ?_
     refine po_start [.val (.agg (arrOf 16 (feF (mulP X T)))), .val (.agg (arrOf 16 (feF (mulP V Z)))), .val (.bool true), .val (.bool true), .val (.pointer (some ⟨b_t2, 16, none⟩)), .val (.agg (arrOf 16 (feF Y))), .val (.pointer (some ⟨b_t3, 32, none⟩)), .val (.agg (arrOf 16 (feF T))), .val (.agg (arrOf 16 (feF (mulP Y T)))), .val (.pointer (some ⟨b_t3, 16, none⟩)), .val (.agg (arrOf 16 (feF Q))), .val (.pointer (some ⟨b_t2, 32, none⟩)), .val (.agg (arrOf 16 (feF Z))), .val (.agg (arrOf 16 (feF (mulP Q Z)))), .val (.bool false), .val (.bool false), .val (.bool false)] [] (fun i hi => absurd hi (Nat.not_lt_zero _)) (fun HWF m gz wa p az hp hm hmp hcl hdn hE hJ hS hO => ?_) (fun gz wa hE hJ => ?_)
     · rcases (show p = 0 ∨ p = 1 ∨ p = 2 ∨ p = 3 ∨ p = 4 ∨ p = 5 ∨ p = 6 ∨ p = 7 ∨ p = 8 ∨ p = 9 ∨ p = 10 ∨ p = 11 ∨ p = 12 ∨ p = 13 ∨ p = 14 ∨ p = 15 ∨ p = 16 by have h9 : p < 17 := hp; omega) with rfl | rfl | rfl | rfl | rfl | rfl | rfl | rfl | rfl | rfl | rfl | rfl | rfl | rfl | rfl | rfl | rfl
       · have e6 : az.eval (.tmp 6) = .agg (arrOf 16 (feF X)) := hO 6 rfl
         have e8 : az.eval (.tmp 8) = .agg (arrOf 16 (feF T)) := hO 8 rfl
         exact po_k HWF hJ hE (refMul5_any X T _ HX.out HT.out) rfl rfl rfl rfl rfl rfl (ar2 e6 e8)
       · have e11 : az.eval (.tmp 11) = .agg (arrOf 16 (feF V)) := hO 11 rfl
         have e13 : az.eval (.tmp 13) = .agg (arrOf 16 (feF Z)) := hO 13 rfl
         exact po_k HWF hJ hE (refMul5_any V Z _ HV.out HZ.out) rfl rfl rfl rfl rfl rfl (ar2 e11 e13)
       · exact po_p _ HWF hJ hE rfl rfl rfl rfl rfl rfl rfl (exec_Fe_eq2 _ _ _ _ (mulP_lt _ _) (mulP_lt _ _) (decide_eq_true H1.out) (po_e hS hdn hJ 0 9 rfl rfl rfl rfl) (po_e hS hdn hJ 1 14 rfl rfl rfl rfl))
       · exact po_p _ HWF hJ hE rfl rfl rfl rfl rfl rfl rfl (x_move (po_e hS hdn hJ 2 15 rfl rfl rfl rfl))
       · have e16 := po_e hS hdn hJ 3 16 rfl rfl rfl rfl
         have e2 : az.eval (.tmp 2) = .pointer (some ⟨b_t2, 0, none⟩) := hO 2 rfl
         exact po_p (Op.fieldAddr 63 (Operand.tmp 2) 1) HWF hJ hE rfl rfl rfl rfl rfl rfl (wanted_of rfl rfl e16) (by first | (simp only [execOp, mkOp, eval_const, e2]; done) | (simp only [execOp, mkOp, eval_const, e2]; go_simp))
       · exact po_p _ HWF hJ hE rfl rfl rfl rfl rfl rfl (wanted_of rfl rfl (po_e hS hdn hJ 3 16 rfl rfl rfl rfl)) (exec_load_as _ _ _ _ (feF Y) (po_e hS hdn hJ 4 17 rfl rfl rfl rfl) arrFe (Keep.row hE r_t2 rfl) (by omega) (fun i hi => ptF_y _ _ _ i hi))
       · have e16 := po_e hS hdn hJ 3 16 rfl rfl rfl rfl
         have e3 : az.eval (.tmp 3) = .pointer (some ⟨b_t3, 0, none⟩) := hO 3 rfl
         exact po_p (Op.fieldAddr 63 (Operand.tmp 3) 2) HWF hJ hE rfl rfl rfl rfl rfl rfl (wanted_of rfl rfl e16) (by first | (simp only [execOp, mkOp, eval_const, e3]; done) | (simp only [execOp, mkOp, eval_const, e3]; go_simp))
       · exact po_p _ HWF hJ hE rfl rfl rfl rfl rfl rfl (wanted_of rfl rfl (po_e hS hdn hJ 3 16 rfl rfl rfl rfl)) (exec_load_as _ _ _ _ (feF T) (po_e hS hdn hJ 6 19 rfl rfl rfl rfl) arrFe (Keep.row hE r_t3 rfl) (by omega) (fun i hi => ptF_z _ _ _ i hi))
       · exact po_k HWF hJ hE (refMul5_any Y T _ HY.out HT.out) rfl rfl rfl rfl rfl (wanted_of rfl rfl (po_e hS hdn hJ 3 16 rfl rfl rfl rfl)) (ar2 (po_e hS hdn hJ 5 18 rfl rfl rfl rfl) (po_e hS hdn hJ 7 20 rfl rfl rfl rfl))
       · have e16 := po_e hS hdn hJ 3 16 rfl rfl rfl rfl
         have e3 : az.eval (.tmp 3) = .pointer (some ⟨b_t3, 0, none⟩) := hO 3 rfl
         exact po_p (Op.fieldAddr 63 (Operand.tmp 3) 1) HWF hJ hE rfl rfl rfl rfl rfl rfl (wanted_of rfl rfl e16) (by first | (simp only [execOp, mkOp, eval_const, e3]; done) | (simp only [execOp, mkOp, eval_const, e3]; go_simp))
       · exact po_p _ HWF hJ hE rfl rfl rfl rfl rfl rfl (wanted_of rfl rfl (po_e hS hdn hJ 3 16 rfl rfl rfl rfl)) (exec_load_as _ _ _ _ (feF Q) (po_e hS hdn hJ 9 22 rfl rfl rfl rfl) arrFe (Keep.row hE r_t3 rfl) (by omega) (fun i hi => ptF_y _ _ _ i hi))
       · have e16 := po_e hS hdn hJ 3 16 rfl rfl rfl rfl
         have e2 : az.eval (.tmp 2) = .pointer (some ⟨b_t2, 0, none⟩) := hO 2 rfl
         exact po_p (Op.fieldAddr 63 (Operand.tmp 2) 2) HWF hJ hE rfl rfl rfl rfl rfl rfl (wanted_of rfl rfl e16) (by first | (simp only [execOp, mkOp, eval_const, e2]; done) | (simp only [execOp, mkOp, eval_const, e2]; go_simp))
       · exact po_p _ HWF hJ hE rfl rfl rfl rfl rfl rfl (wanted_of rfl rfl (po_e hS hdn hJ 3 16 rfl rfl rfl rfl)) (exec_load_as _ _ _ _ (feF Z) (po_e hS hdn hJ 11 24 rfl rfl rfl rfl) arrFe (Keep.row hE r_t2 rfl) (by omega) (fun i hi => ptF_z _ _ _ i hi))
       · exact po_k HWF hJ hE (refMul5_any Q Z _ HQ.out HZ.out) rfl rfl rfl rfl rfl (wanted_of rfl rfl (po_e hS hdn hJ 3 16 rfl rfl rfl rfl)) (ar2 (po_e hS hdn hJ 10 23 rfl rfl rfl rfl) (po_e hS hdn hJ 12 25 rfl rfl rfl rfl))
       · exact po_p _ HWF hJ hE rfl rfl rfl rfl rfl rfl (wanted_of rfl rfl (po_e hS hdn hJ 3 16 rfl rfl rfl rfl)) (exec_Fe_eq2 _ _ _ _ (mulP_lt _ _) (mulP_lt _ _) (decide_eq_false H2.out) (po_e hS hdn hJ 8 21 rfl rfl rfl rfl) (po_e hS hdn hJ 13 26 rfl rfl rfl rfl))
       · have e16 := po_e hS hdn hJ 3 16 rfl rfl rfl rfl
         have e27 := po_e hS hdn hJ 14 27 rfl rfl rfl rfl
         exact po_p (Op.pick (Operand.tmp 16) (Operand.tmp 27) (Operand.const (Value.bool false))) HWF hJ hE rfl rfl rfl rfl rfl rfl rfl (by first | (simp only [execOp, mkOp, eval_const, e16, e27]; done) | (simp only [execOp, mkOp, eval_const, e16, e27]; go_simp))
       · exact po_p _ HWF hJ hE rfl rfl rfl rfl rfl rfl rfl (x_assign (po_e hS hdn hJ 15 28 rfl rfl rfl rfl))
     · rw [putO_true _ _ _ _ _ rfl]
       simp only [putA, Nat.zero_add, Nat.reduceAdd]
       rw [hJ.tt 0 rfl, hJ.tt 1 rfl, hJ.tt 2 rfl, hJ.tt 3 rfl, hJ.tt 4 rfl, hJ.tt 5 rfl, hJ.tt 6 rfl, hJ.tt 7 rfl, hJ.tt 8 rfl, hJ.tt 9 rfl, hJ.tt 10 rfl, hJ.tt 11 rfl, hJ.tt 12 rfl, hJ.tt 13 rfl, hJ.tt 14 rfl, hJ.tt 15 rfl, hJ.tt 16 rfl]
       simp only [Act.put, zA, zB, zC]
       refine po_end ?_
       replace r_t2 := Keep.row hE r_t2 rfl
       replace r_t3 := Keep.row hE r_t3 rfl
       have Bw4 := hE.below Bw3 (HGS.out _ Bw3) rfl
       clear Bw3 hE hJ 
       go_wp2
       go_ret
       exact ⟨rfl, Bw4⟩
 · have H1 := Lib.hid h1
   rw [decide_eq_false h1]
   clear h1
   go_enter Tryz.func47, Tryz.ntmps47
   go_wp2_with (first
     | (have hgo := Bw0; clear hgo
        refine wpList_box_row rfl 63 (.tmp 0) rfl 48 (ptF X Y Z) rfl ?_
        intro b_t2 w1 lk r_t2 kk
        have l_t2 := zrl HGS Bw0 lk
        have Bw1 := zbt HGS Bw0 kk
        clear Bw0 kk lk)
     | (have hgo := Bw1; clear hgo
        refine wpList_box_row rfl 63 (.tmp 1) rfl 48 (ptF V Q T) rfl ?_
        intro b_t3 w2 lk r_t3 kk
        have n_t2_t3 := zrn r_t2 lk
        have l_t3 := zrl HGS Bw1 lk
        replace r_t2 := zrb r_t2 kk
        have Bw2 := zbt HGS Bw1 kk
        clear Bw1 kk lk))
   have Bw3 := Bw2.drew
   replace r_t2 := World.rowIs.drew r_t2
   replace r_t3 := World.rowIs.drew r_t3
   clear Bw2
   refine zpo [] (.rd 0 (.rd 1 (.rd 2 (.rd 3 (.rd 5 (.rd 6 (.rd 7 (.rd 8 .done)))))))) #[true, true, true, true, false, true, true, true, true, false, false, false, false, false, false, false, false, false, false, false, false, false, false, false, false] [4, 9, 10, 11, 12, 13, 14, 15, 16, 17, 18, 19, 20, 21, 22, 23, 24] [some 9, some 14, some 15, some 16, some 17, some 18, some 19, some 20, some 21, some 22, some 23, some 24, some 25, some 26, some 27, some 28, some 4] [[], [0], [0, 1], [1, 2], [3], [3, 4], [3], [3, 6], [3, 5, 7], [3], [3, 9], [3], [3, 11], [3, 8, 10, 12], [3, 8, 13], [3, 14], [0, 1, 2, 3, 4, 5, 6, 7, 8, 9, 10, 11, 12, 13, 14, 15]] [(0, []), (1, [0]), (2, []), (3, [2]), (4, [1, 3]), (5, []), (6, [5]), (7, []), (8, [7]), (9, [6, 8, 4]), (10, [4, 9]), (11, [10, 9]), (12, [11]), (13, [12, 11]), (14, [11]), (15, [14, 11]), (16, [13, 15, 11, 11]), (17, [11]), (18, [17, 11]), (19, [11]), (20, [19, 11]), (21, [18, 20, 16, 11]), (22, [16, 21, 11]), (23, [11, 22]), (24, [23, 21, 0, 1, 2, 3, 4, 5, 6, 7, 8, 9, 10, 11, 12, 13, 14, 15, 16, 17, 18, 19, 20, 21, 22, 23])] 495 ?_
   refine lintz_pure 5 _ _ (.pointer (some ⟨b_t2, 0, none⟩)) rfl rfl rfl rfl rfl (fun w0 hb => by unfold mkOp; go_simp; all_goals (with_reducible rfl)) ?_
   simp only [Act.put, zA, zB, zC]
   refine zld (feF X) arrFe r_t2 rfl (fun i hi => ptF_x _ _ _ i hi) rfl rfl rfl rfl rfl (by omega) ?_
   simp only [Act.put, zA, zB, zC]
   refine lintz_pure 7 _ _ (.pointer (some ⟨b_t3, 32, none⟩)) rfl rfl rfl rfl rfl (fun w0 hb => by unfold mkOp; go_simp; all_goals (with_reducible rfl)) ?_
   simp only [Act.put, zA, zB, zC]
   refine zld (feF T) arrFe r_t3 rfl (fun i hi => ptF_z _ _ _ i hi) rfl rfl rfl rfl rfl (by omega) ?_
   simp only [Act.put, zA, zB, zC]
   refine lintz_pure 10 _ _ (.pointer (some ⟨b_t3, 0, none⟩)) rfl rfl rfl rfl rfl (fun w0 hb => by unfold mkOp; go_simp; all_goals (with_reducible rfl)) ?_
   simp only [Act.put, zA, zB, zC]
   refine zld (feF V) arrFe r_t3 rfl (fun i hi => ptF_x _ _ _ i hi) rfl rfl rfl rfl rfl (by omega) ?_
   simp only [Act.put, zA, zB, zC]
   refine lintz_pure 12 _ _ (.pointer (some ⟨b_t2, 32, none⟩)) rfl rfl rfl rfl rfl (fun w0 hb => by unfold mkOp; go_simp; all_goals (with_reducible rfl)) ?_
   simp only [Act.put, zA, zB, zC]
   refine zld (feF Z) arrFe r_t2 rfl (fun i hi => ptF_z _ _ _ i hi) rfl rfl rfl rfl rfl (by omega) ?_
   simp only [Act.put, zA, zB, zC]
   refine lintz_leaf ?_
   refine po_start [.val (.agg (arrOf 16 (feF (mulP X T)))), .val (.agg (arrOf 16 (feF (mulP V Z)))), .val (.bool false), .val (.bool false), .val (undef), .val (undef), .val (undef), .val (undef), .val (undef), .val (undef), .val (undef), .val (undef), .val (undef), .val (undef), .val (undef), .val (.bool false), .val (.bool false)] [] (fun i hi => absurd hi (Nat.not_lt_zero _)) (fun HWF m gz wa p az hp hm hmp hcl hdn hE hJ hS hO => ?_) (fun gz wa hE hJ => ?_)
   · rcases (show p = 0 ∨ p = 1 ∨ p = 2 ∨ p = 3 ∨ p = 4 ∨ p = 5 ∨ p = 6 ∨ p = 7 ∨ p = 8 ∨ p = 9 ∨ p = 10 ∨ p = 11 ∨ p = 12 ∨ p = 13 ∨ p = 14 ∨ p = 15 ∨ p = 16 by have h9 : p < 17 := hp; omega) with rfl | rfl | rfl | rfl | rfl | rfl | rfl | rfl | rfl | rfl | rfl | rfl | rfl | rfl | rfl | rfl | rfl
     · have e6 : az.eval (.tmp 6) = .agg (arrOf 16 (feF X)) := hO 6 rfl
       have e8 : az.eval (.tmp 8) = .agg (arrOf 16 (feF T)) := hO 8 rfl
       exact po_k HWF hJ hE (refMul5_any X T _ HX.out HT.out) rfl rfl rfl rfl rfl rfl (ar2 e6 e8)
     · have e11 : az.eval (.tmp 11) = .agg (arrOf 16 (feF V)) := hO 11 rfl
       have e13 : az.eval (.tmp 13) = .agg (arrOf 16 (feF Z)) := hO 13 rfl
       exact po_k HWF hJ hE (refMul5_any V Z _ HV.out HZ.out) rfl rfl rfl rfl rfl rfl (ar2 e11 e13)
     · exact po_p _ HWF hJ hE rfl rfl rfl rfl rfl rfl rfl (exec_Fe_eq2 _ _ _ _ (mulP_lt _ _) (mulP_lt _ _) (decide_eq_false H1.out) (po_e hS hdn hJ 0 9 rfl rfl rfl rfl) (po_e hS hdn hJ 1 14 rfl rfl rfl rfl))
     · exact po_p _ HWF hJ hE rfl rfl rfl rfl rfl rfl rfl (x_move (po_e hS hdn hJ 2 15 rfl rfl rfl rfl))
     · exact po_skip 17 HWF hJ rfl hE rfl rfl rfl (wanted_not rfl rfl (po_e hS hdn hJ 3 16 rfl rfl rfl rfl))
     · exact po_skip 18 HWF hJ rfl hE rfl rfl rfl (wanted_not rfl rfl (po_e hS hdn hJ 3 16 rfl rfl rfl rfl))
     · exact po_skip 19 HWF hJ rfl hE rfl rfl rfl (wanted_not rfl rfl (po_e hS hdn hJ 3 16 rfl rfl rfl rfl))
     · exact po_skip 20 HWF hJ rfl hE rfl rfl rfl (wanted_not rfl rfl (po_e hS hdn hJ 3 16 rfl rfl rfl rfl))
     · exact po_skip 21 HWF hJ rfl hE rfl rfl rfl (wanted_not rfl rfl (po_e hS hdn hJ 3 16 rfl rfl rfl rfl))
     · exact po_skip 22 HWF hJ rfl hE rfl rfl rfl (wanted_not rfl rfl (po_e hS hdn hJ 3 16 rfl rfl rfl rfl))
     · exact po_skip 23 HWF hJ rfl hE rfl rfl rfl (wanted_not rfl rfl (po_e hS hdn hJ 3 16 rfl rfl rfl rfl))
     · exact po_skip 24 HWF hJ rfl hE rfl rfl rfl (wanted_not rfl rfl (po_e hS hdn hJ 3 16 rfl rfl rfl rfl))
     · exact po_skip 25 HWF hJ rfl hE rfl rfl rfl (wanted_not rfl rfl (po_e hS hdn hJ 3 16 rfl rfl rfl rfl))
     · exact po_skip 26 HWF hJ rfl hE rfl rfl rfl (wanted_not rfl rfl (po_e hS hdn hJ 3 16 rfl rfl rfl rfl))
     · exact po_skip 27 HWF hJ rfl hE rfl rfl rfl (wanted_not rfl rfl (po_e hS hdn hJ 3 16 rfl rfl rfl rfl))
     · have e16 := po_e hS hdn hJ 3 16 rfl rfl rfl rfl
       have e27 := po_e hS hdn hJ 14 27 rfl rfl rfl rfl
       exact po_p (Op.pick (Operand.tmp 16) (Operand.tmp 27) (Operand.const (Value.bool false))) HWF hJ hE rfl rfl rfl rfl rfl rfl rfl (by first | (simp only [execOp, mkOp, eval_const, e16, e27]; done) | (simp only [execOp, mkOp, eval_const, e16, e27]; go_simp))
     · exact po_p _ HWF hJ hE rfl rfl rfl rfl rfl rfl rfl (x_assign (po_e hS hdn hJ 15 28 rfl rfl rfl rfl))
   · rw [putO_true _ _ _ _ _ rfl]
     simp only [putA, Nat.zero_add, Nat.reduceAdd]
     rw [hJ.tt 0 rfl, hJ.tt 1 rfl, hJ.tt 2 rfl, hJ.tt 3 rfl, hJ.tt 4 rfl, hJ.tt 5 rfl, hJ.tt 6 rfl, hJ.tt 7 rfl, hJ.tt 8 rfl, hJ.tt 9 rfl, hJ.tt 10 rfl, hJ.tt 11 rfl, hJ.tt 12 rfl, hJ.tt 13 rfl, hJ.tt 14 rfl, hJ.tt 15 rfl, hJ.tt 16 rfl]
     simp only [Act.put, zA, zB, zC]
     refine po_end ?_
     replace r_t2 := Keep.row hE r_t2 rfl
     replace r_t3 := Keep.row hE r_t3 rfl
     have Bw4 := hE.below Bw3 (HGS.out _ Bw3) rfl
     clear Bw3 hE hJ 
     go_wp2
     go_ret
     exact ⟨rfl, Bw4⟩
set_option maxHeartbeats 4000000 in
set_option maxRecDepth 10000 in
theorem refSmall8_any (X Y Z : Nat) (w : World) (HX : X < p25) (HY : Y < p25) (HZ : Z < p25) : Calls Tryz.prog 45 #[.agg (arrOf 48 (ptF X Y Z))] w fun e w' => e = .returned (.bool (pSmall (X, Y, Z))) ∧ Below w.heap.size w w' := by
 have Bw0 := Below.refl w.heap.size w
 have HGS : Hid (∀ wq : World, Below w.heap.size w wq → w.heap.size ≤ wq.heap.size) := Lib.hid fun wq h => h.size
 replace HX := Lib.hid HX
 replace HY := Lib.hid HY
 replace HZ := Lib.hid HZ
 unfold pSmall pEight
 dsimp only
 rcases hA1 : padd dP (X, Y, Z) (X, Y, Z) with ⟨x1, y1, z1⟩
 obtain ⟨hx1, hy1, hz1⟩ := padd_vlt hA1
 have Hx1 := Lib.hid hx1
 have Hy1 := Lib.hid hy1
 have Hz1 := Lib.hid hz1
 clear hx1 hy1 hz1
 rcases hA2 : padd dP (x1, y1, z1) (x1, y1, z1) with ⟨x2, y2, z2⟩
 obtain ⟨hx2, hy2, hz2⟩ := padd_vlt hA2
 have Hx2 := Lib.hid hx2
 have Hy2 := Lib.hid hy2
 have Hz2 := Lib.hid hz2
 clear hx2 hy2 hz2
 rcases hA3 : padd dP (x2, y2, z2) (x2, y2, z2) with ⟨x3, y3, z3⟩
 obtain ⟨hx3, hy3, hz3⟩ := padd_vlt hA3
 have Hx3 := Lib.hid hx3
 have Hy3 := Lib.hid hy3
 have Hz3 := Lib.hid hz3
 clear hx3 hy3 hz3
 replace hA1 := Lib.hid hA1
 replace hA2 := Lib.hid hA2
 replace hA3 := Lib.hid hA3
 go_enter Tryz.func45, Tryz.ntmps45
 go_wp2_with (first
   | (have hgo := Bw0; clear hgo
      refine wpList_box_row rfl 63 (.tmp 0) rfl 48 (ptF X Y Z) rfl ?_
      intro b_t1 w1 lk r_t1 kk
      have l_t1 := zrl HGS Bw0 lk
      have Bw1 := zbt HGS Bw0 kk
      clear Bw0 kk lk)
   | (have hgo := Bw1; clear hgo
      go_at_call 79
      refine (curve_any _).mono ?_
      rintro e w3 ⟨rfl, kk⟩
      replace r_t1 := zrb r_t1 kk
      have Bw2 := zbt HGS Bw1 kk
      clear Bw1 kk)
   | (have hgo := Bw2; clear hgo
      refine wpList_alloc_row rfl 61 rfl 16 (u64f fun _ => 0) zeroFe ?_
      intro b_t3 w4 lk r_t3 kk
      have n_t1_t3 := zrn r_t1 lk
      have l_t3 := zrl HGS Bw2 lk
      replace r_t1 := zrb r_t1 kk
      have Bw3 := zbt HGS Bw2 kk
      clear Bw2 kk lk)
   | (have hgo := Bw3; clear hgo
      refine wpList_store_as rfl 61 (.tmp 3) (.tmp 5) rfl 16 (feF dP) arrFe r_t3 rfl rfl (by omega) (fun _ _ => rfl) (fun i hi => putN_whole hi) ?_
      intro w5 q gk
      replace r_t1 := gb_rowIs r_t1 gk n_t1_t3
      replace r_t3 := q
      have Bw4 := zbg HGS Bw3 gk l_t3
      clear Bw3 gk q)
   | (have hgo := Bw4; clear hgo
      refine wpList_load_as rfl 63 (.tmp 1) rfl 48 (ptF X Y Z) arrP r_t1 rfl (by omega) (fun i hi => by rw [Nat.zero_add]) ?_
      have Bw5 := Bw4
      clear Bw4)
   | (have hgo := Bw5; clear hgo
      refine wpList_load_as rfl 63 (.tmp 1) rfl 48 (ptF X Y Z) arrP r_t1 rfl (by omega) (fun i hi => by rw [Nat.zero_add]) ?_
      have Bw6 := Bw5
      clear Bw5)
   | (have hgo := Bw6; clear hgo
      refine wpList_load_as rfl 61 (.tmp 3) rfl 16 (feF dP) arrFe r_t3 rfl (by omega) (fun i hi => by rw [Nat.zero_add]) ?_
      have Bw7 := Bw6
      clear Bw6)
   | (have hgo := Bw7; clear hgo
      go_at_call 81
      refine (refPadd_v dP X Y Z X Y Z _ hA1.out dP_lt HX.out HY.out HZ.out HX.out HY.out HZ.out).mono ?_
      rintro e w9 ⟨rfl, kk⟩
      replace r_t1 := zrb r_t1 kk
      replace r_t3 := zrb r_t3 kk
      have Bw8 := zbt HGS Bw7 kk
      clear Bw7 kk)
   | (have hgo := Bw8; clear hgo
      refine wpList_alloc_row rfl 63 rfl 48 (u64f fun _ => 0) zeroPt ?_
      intro b_t4 w10 lk r_t4 kk
      have n_t1_t4 := zrn r_t1 lk
      have n_t3_t4 := zrn r_t3 lk
      have l_t4 := zrl HGS Bw8 lk
      replace r_t1 := zrb r_t1 kk
      replace r_t3 := zrb r_t3 kk
      have Bw9 := zbt HGS Bw8 kk
      clear Bw8 kk lk)
   | (have hgo := Bw9; clear hgo
      refine wpList_store_as rfl 63 (.tmp 4) (.tmp 9) rfl 48 (ptF x1 y1 z1) arrP r_t4 rfl rfl (by omega) (fun j _ => ptF_one _ _ _ j) (fun i hi => putN_whole hi) ?_
      intro w11 q gk
      replace r_t1 := gb_rowIs r_t1 gk n_t1_t4
      replace r_t3 := gb_rowIs r_t3 gk n_t3_t4
      replace r_t4 := q
      have Bw10 := zbg HGS Bw9 gk l_t4
      clear Bw9 gk q)
   | (have hgo := Bw10; clear hgo
      refine wpList_load_as rfl 63 (.tmp 4) rfl 48 (ptF x1 y1 z1) arrP r_t4 rfl (by omega) (fun i hi => by rw [Nat.zero_add]) ?_
      have Bw11 := Bw10
      clear Bw10)
   | (have hgo := Bw11; clear hgo
      refine wpList_load_as rfl 63 (.tmp 4) rfl 48 (ptF x1 y1 z1) arrP r_t4 rfl (by omega) (fun i hi => by rw [Nat.zero_add]) ?_
      have Bw12 := Bw11
      clear Bw11)
   | (have hgo := Bw12; clear hgo
      refine wpList_load_as rfl 61 (.tmp 3) rfl 16 (feF dP) arrFe r_t3 rfl (by omega) (fun i hi => by rw [Nat.zero_add]) ?_
      have Bw13 := Bw12
      clear Bw12)
   | (have hgo := Bw13; clear hgo
      go_at_call 81
      refine (refPadd_v dP x1 y1 z1 x1 y1 z1 _ hA2.out dP_lt Hx1.out Hy1.out Hz1.out Hx1.out Hy1.out Hz1.out).mono ?_
      rintro e w15 ⟨rfl, kk⟩
      replace r_t1 := zrb r_t1 kk
      replace r_t3 := zrb r_t3 kk
      replace r_t4 := zrb r_t4 kk
      have Bw14 := zbt HGS Bw13 kk
      clear Bw13 kk)
   | (have hgo := Bw14; clear hgo
      refine wpList_store_as rfl 63 (.tmp 4) (.tmp 13) rfl 48 (ptF x2 y2 z2) arrP r_t4 rfl rfl (by omega) (fun j _ => ptF_one _ _ _ j) (fun i hi => putN_whole hi) ?_
      intro w16 q gk
      replace r_t1 := gb_rowIs r_t1 gk n_t1_t4
      replace r_t3 := gb_rowIs r_t3 gk n_t3_t4
      replace r_t4 := q
      have Bw15 := zbg HGS Bw14 gk l_t4
      clear Bw14 gk q)
   | (have hgo := Bw15; clear hgo
      refine wpList_load_as rfl 63 (.tmp 4) rfl 48 (ptF x2 y2 z2) arrP r_t4 rfl (by omega) (fun i hi => by rw [Nat.zero_add]) ?_
      have Bw16 := Bw15
      clear Bw15)
   | (have hgo := Bw16; clear hgo
      refine wpList_load_as rfl 63 (.tmp 4) rfl 48 (ptF x2 y2 z2) arrP r_t4 rfl (by omega) (fun i hi => by rw [Nat.zero_add]) ?_
      have Bw17 := Bw16
      clear Bw16)
   | (have hgo := Bw17; clear hgo
      refine wpList_load_as rfl 61 (.tmp 3) rfl 16 (feF dP) arrFe r_t3 rfl (by omega) (fun i hi => by rw [Nat.zero_add]) ?_
      have Bw18 := Bw17
      clear Bw17)
   | (have hgo := Bw18; clear hgo
      go_at_call 81
      refine (refPadd_v dP x2 y2 z2 x2 y2 z2 _ hA3.out dP_lt Hx2.out Hy2.out Hz2.out Hx2.out Hy2.out Hz2.out).mono ?_
      rintro e w20 ⟨rfl, kk⟩
      replace r_t1 := zrb r_t1 kk
      replace r_t3 := zrb r_t3 kk
      replace r_t4 := zrb r_t4 kk
      have Bw19 := zbt HGS Bw18 kk
      clear Bw18 kk)
   | (have hgo := Bw19; clear hgo
      refine wpList_store_as rfl 63 (.tmp 4) (.tmp 17) rfl 48 (ptF x3 y3 z3) arrP r_t4 rfl rfl (by omega) (fun j _ => ptF_one _ _ _ j) (fun i hi => putN_whole hi) ?_
      intro w21 q gk
      replace r_t1 := gb_rowIs r_t1 gk n_t1_t4
      replace r_t3 := gb_rowIs r_t3 gk n_t3_t4
      replace r_t4 := q
      have Bw20 := zbg HGS Bw19 gk l_t4
      clear Bw19 gk q))
 have Bw21 := Bw20.drew
 replace r_t1 := World.rowIs.drew r_t1
 replace r_t3 := World.rowIs.drew r_t3
 replace r_t4 := World.rowIs.drew r_t4
 clear Bw20
 refine zpo [] (.rd 0 .done) #[true, false, false, false] [1, 2, 3] [some 19, some 20, some 2] [[], [0], [0, 1]] [(0, []), (1, []), (2, [0, 1, 1]), (3, [2, 2, 0, 1, 2])] 1 ?_
 refine zld (ptF x3 y3 z3) arrP r_t4 rfl (fun i hi => by rw [Nat.zero_add]) rfl rfl rfl rfl rfl (by omega) ?_
 simp only [Act.put, zA, zB, zC]
 refine lintz_leaf ?_
 refine po_start [.val (.agg (arrOf 48 (ptF 0 1 1))), .val (.bool (pSame (x3, y3, z3) (0, 1, 1))), .val (.bool (pSame (x3, y3, z3) (0, 1, 1)))] [] (fun i hi => absurd hi (Nat.not_lt_zero _)) (fun HWF m gz wa p az hp hm hmp hcl hdn hE hJ hS hO => ?_) (fun gz wa hE hJ => ?_)
 · rcases (show p = 0 ∨ p = 1 ∨ p = 2 by have h9 : p < 3 := hp; omega) with rfl | rfl | rfl
   · exact po_k HWF hJ hE (refZero_any _) rfl rfl rfl rfl rfl rfl (ar0)
   · have e18 : az.eval (.tmp 18) = .agg (arrOf 48 (ptF x3 y3 z3)) := hO 18 rfl
     exact po_k HWF hJ hE (refSame_any x3 y3 z3 0 1 1 _ Hx3.out Hy3.out Hz3.out (by decide +kernel) (by decide +kernel) (by decide +kernel)) rfl rfl rfl rfl rfl rfl (ar2 e18 (po_e hS hdn hJ 0 19 rfl rfl rfl rfl))
   · exact po_p _ HWF hJ hE rfl rfl rfl rfl rfl rfl rfl (x_assign (po_e hS hdn hJ 1 20 rfl rfl rfl rfl))
 · rw [putO_true _ _ _ _ _ rfl]
   simp only [putA, Nat.zero_add, Nat.reduceAdd]
   rw [hJ.tt 0 rfl, hJ.tt 1 rfl, hJ.tt 2 rfl]
   simp only [Act.put, zA, zB, zC]
   refine po_end ?_
   replace r_t1 := Keep.row hE r_t1 rfl
   replace r_t3 := Keep.row hE r_t3 rfl
   replace r_t4 := Keep.row hE r_t4 rfl
   have Bw22 := hE.below Bw21 (HGS.out _ Bw21) rfl
   clear Bw21 hE hJ 
   go_wp2
   go_ret
   exact ⟨rfl, Bw22⟩
theorem run_toB {P : Program} (w : World) (ty elem : TypeId) (ad : Option Addr) (n cap k : Nat) (hu : P.underlying ty = some (.slice elem)) (hi : (P.info? elem).map (fun i => i.size) = some 1) (hk : k ≤ cap) :
   (Instr.sliceAt ty (.slice ad n cap) none (some (.int .i64 (k : Int))) none).run P w = .ok (.slice ad k cap) w := by
 cases hq : P.info? elem with
 | none => simp [hq] at hi
 | some i =>
   have hs : i.size = 1 := by simpa [hq] using hi
   have hb := run_bound_in (P := P) w .i64 k cap .sliceAcap hk
   have hx : ∀ x : Addr, x.add 0 = x := fun x => by unfold Addr.add; simp
   by_cases hc : cap = 0
   · subst hc
     simp [Instr.sliceAt, run_underlying hu w, Instr.slice, Instr.sliceBounds, sizeOf, typeInfo, hq, hs, hb, Result.andThen]
   · simp [Instr.sliceAt, run_underlying hu w, Instr.slice, Instr.sliceBounds, sizeOf, typeInfo, hq, hs, hc, hb, Result.andThen]
     cases ad with
     | none => rfl
     | some x => simp [hx]
theorem takeB {w : World} {v : Value} {l : List UInt8} (h : Bs w v l) (k : Nat) (hk : k ≤ l.length) :
   ∃ v', Bs w v' (l.take k) ∧ ∀ (ρ : Operand → Value) (x hi : Operand) (t : TypeId) (w0 : World), ρ x = v → ρ hi = .int .i64 (k : Int) → (execOp ρ (mkOp (.slice 22 x none (some hi) none) t)).run Tryz.prog w0 = .ok (.value v') w0 := by
 obtain ⟨ad, n, cap, rfl, hn, hc1, hc2, hB⟩ := h.shape
 refine ⟨_, hB.take (k := k) (by omega), fun ρ x hi t w0 hx hh => ?_⟩
 simp [execOp, mkOp, hx, hh, run_toB (P := Tryz.prog) w0 22 5 ad n cap k Tryz.underlying22 (by kernel_rfl) (by omega), Result.andThen]
theorem dropB {w : World} {v : Value} {l : List UInt8} (h : Bs w v l) (k : Nat) (hk : k ≤ l.length) :
   ∃ v', Bs w v' (l.drop k) ∧ ∀ (ρ : Operand → Value) (x lo : Operand) (t : TypeId) (w0 : World), ρ x = v → ρ lo = .int .i64 (k : Int) → (execOp ρ (mkOp (.slice 22 x (some lo) none none) t)).run Tryz.prog w0 = .ok (.value v') w0 := by
 obtain ⟨ad, n, cap, rfl, hn, hc1, hc2, hB⟩ := h.shape
 refine ⟨_, hB.drop (k := k) (by omega), fun ρ x lo t w0 hx hh => ?_⟩
 simp [execOp, mkOp, hx, hh, run_sliceFrom (P := Tryz.prog) w0 22 5 ad n cap k .i64 Tryz.underlying22 (by kernel_rfl) (by omega), Result.andThen]
theorem Bss.threeP {w : World} {v1 v2 v3 : Value} {l1 l2 l3 : List UInt8} (h1 : Bs w v1 l1) (h2 : Bs w v2 l2) (h3 : Bs w v3 l3) {n : Nat} (hn : w.heap.size = n) : Bss (w.alloc (.cells #[v1, v2, v3] 22)) (.slice (some ⟨n, 0, none⟩) 3 3) [l1, l2, l3] := by
 subst hn
 have hb : Below w.heap.size w (w.alloc (.cells #[v1, v2, v3] 22)) := (Below.refl _ _).alloc (Nat.le_refl _) _
 refine ⟨_, 3, rfl, by simp, by simp [maxLen], (fun h => by cases h), fun x hx i hi => ?_⟩
 cases hx
 match i, hi with
 | 0, _ =>
   refine ⟨by simp, v1, ?_, h1.below hb (Nat.le_refl _)⟩
   rw [add_eq]
   exact World.cell?_alloc_mark w #[v1, v2, v3] 22 (0, 0) 0
 | 1, _ =>
   refine ⟨by simp, v2, ?_, h2.below hb (Nat.le_refl _)⟩
   rw [add_eq]
   exact World.cell?_alloc_mark w #[v1, v2, v3] 22 (0, 0) 1
 | 2, _ =>
   refine ⟨by simp, v3, ?_, h3.below hb (Nat.le_refl _)⟩
   rw [add_eq]
   exact World.cell?_alloc_mark w #[v1, v2, v3] 22 (0, 0) 2
theorem exec_rowsP2 (ρ : Operand → Value) (x y : Operand) (t : TypeId) (w : World) {v1 v2 : Value} {l1 l2 : List UInt8} (h1 : Bs w v1 l1) (h2 : Bs w v2 l2) (hx : ρ x = v1) (hy : ρ y = v2) :
   (execOp ρ (mkOp (.buildSlice 23 2 #[(0, x), (1, y)]) t)).run Tryz.prog w = .ok (.value (.slice (some ⟨w.heap.size, 0, none⟩) 2 2)) (w.alloc (.cells #[v1, v2] 22)) := by
 obtain ⟨a1, c1, rfl, _⟩ := h1
 obtain ⟨a2, c2, rfl, _⟩ := h2
 exact exec_rows2 ρ x y t w a1 a2 _ c1 _ c2 hx hy
theorem exec_rowsP3 (ρ : Operand → Value) (x y z : Operand) (t : TypeId) (w : World) {v1 v2 v3 : Value} {l1 l2 l3 : List UInt8} (h1 : Bs w v1 l1) (h2 : Bs w v2 l2) (h3 : Bs w v3 l3) (hx : ρ x = v1) (hy : ρ y = v2) (hz : ρ z = v3) :
   (execOp ρ (mkOp (.buildSlice 23 3 #[(0, x), (1, y), (2, z)]) t)).run Tryz.prog w = .ok (.value (.slice (some ⟨w.heap.size, 0, none⟩) 3 3)) (w.alloc (.cells #[v1, v2, v3] 22)) := by
 obtain ⟨a1, c1, rfl, _⟩ := h1
 obtain ⟨a2, c2, rfl, _⟩ := h2
 obtain ⟨a3, c3, rfl, _⟩ := h3
 simp only [execOp, mkOp, List.map_toArray, List.map_cons, List.map_nil, hx, hy, hz]
 go_simp
theorem wpList_rows3 {ops : Array Oper} {rest : List Oper} {o : Oper} {a : Act} {w : World} {Q : Exit → Act → World → Prop} (hgd : o.guard = none) (x y z : Operand) (ho : o.op = .buildSlice 23 3 #[(0, x), (1, y), (2, z)]) {v1 v2 v3 : Value} {l1 l2 l3 : List UInt8} (h1 : Bs w v1 l1) (h2 : Bs w v2 l2) (h3 : Bs w v3 l3) (hx : a.eval x = v1) (hy : a.eval y = v2) (hz : a.eval z = v3)
   (h : ∀ v w', Bss w' v [l1, l2, l3] → Below w.heap.size w w' → wpList Tryz.prog ops Q rest (a.put o.dst v) w') : wpList Tryz.prog ops Q (o :: rest) a w := by
 have hr := exec_rowsP3 a.eval x y z o.type w h1 h2 h3 hx hy hz
 exact wpList_plain hgd fun _ hK => by
   unfold Oper.wp
   rw [exec_mkOp, ho, hr]
   exact hK _ _ (h _ _ (Bss.threeP h1 h2 h3 rfl) ((Below.refl _ _).alloc (Nat.le_refl _) _))
theorem wpList_load_asg {P : Program} {ops : Array Oper} {rest : List Oper} {o : Oper} {a : Act} {w : World} {Q : Exit → Act → World → Prop} (hw : Region.wanted o (yielded ops a.tmps) = true) (ty : TypeId) (x : Operand) (ho : o.op = .load ty x) (k : Nat) (F : Nat → Value) (ht : IsArr P ty k) {b m off : Nat} {t : TypeId} {f : Nat → Value}
   (hr : w.rowIs b t m f) (hx : a.eval x = .pointer (some ⟨b, off, none⟩)) (hk : off + k ≤ m) (hF : ∀ i, i < k → f (off + i) = F i) (h : wpList P ops Q rest (a.put o.dst (.agg (arrOf k F))) w) : wpList P ops Q (o :: rest) a w :=
 wpList_value_given hw (.agg (arrOf k F)) (by rw [exec_mkOp, ho]; exact exec_load_as a.eval ty x o.type F hx ht hr hk hF) h
theorem Owns.one (w : World) (b : UInt8) : Owns (w.alloc (.cells #[.int .u8 (b.toNat : Int)] 5)) w.heap.size (.slice (some ⟨w.heap.size, 0, none⟩) 1 1) [b] :=
 Owns.of_row (f := fun _ => .int .u8 (b.toNat : Int)) (rowIs_arr w 1 (fun _ => .int .u8 (b.toNat : Int)) 5) (Nat.le_refl _) (by decide) rfl (fun i hi => by
   have h : i = 0 := by simp at hi; omega
   subst h
   rfl)
theorem Owns.belowJ {w w' : World} {base : Nat} {v : Value} {l : List UInt8} (h : Owns w base v l) (hb : Below w.heap.size w w') : Owns w' base v l := by
 obtain ⟨h1, h2⟩ := h
 refine ⟨h1, ?_⟩
 rcases h2 with h2 | ⟨g, cap, cur, rfl, hbg, hg, h3⟩
 · exact .inl h2
 · exact .inr ⟨g, cap, cur, rfl, hbg, (hb.block g (Array.getElem?_eq_some_iff.1 hg).1).trans hg, h3⟩
theorem ret_cell_as_tmp {P : Program} {a : Act} {w : World} {fn : Func} {R : Ending → World → Prop} {p q : Tmp} {ty : TypeId} {k b m : Nat} {t : TypeId} {f : Nat → Value} {v : Value} (Fv : Nat → Value) (h : fn.results = #[.cell p ty, .tmp q]) (ht : IsArr P ty k)
   (hr : w.rowIs b t m f) (hp : a.tmps.getD p undef = .pointer (some ⟨b, 0, none⟩)) (hq : a.tmps.getD q undef = v) (hk : k ≤ m) (hF : ∀ i, i < k → f i = Fv i) (hd : a.defers = []) (hR : R (.returned (.tuple #[.agg (arrOf k Fv), v])) w) : bodyPost P fn R .ret a w :=
 ret_cell_arr_tmp h ht hr hp hq (by omega) hd (by rw [arrOf_congr (g := Fv) fun i hi => by rw [Nat.zero_add]; exact hF i hi]; exact hR)
theorem bs_cell {W : World} {gb off n c : Nat} {l : List UInt8} (h : Bs W (.slice (some ⟨gb, off, none⟩) n c) l) (i : Nat) (hi : i < l.length) : W.cell? ⟨gb, off + i, none⟩ = some (.int .u8 ((l[i].toNat : Nat) : Int)) := by
 obtain ⟨_, _, he, _, _, _, hc9⟩ := h
 injection he with he1 he2 he3
 have h10 := (hc9 _ he1.symm i hi).2
 rwa [add_eq] at h10
theorem litB_at (V n i : Nat) (h : i < (litB V n).length) : (litB V n)[i] = UInt8.ofNat (V / 256 ^ i) := by
 rw [← getD_at _ i h]
 exact litB_getD V n i (by rwa [litB_length] at h)
theorem litB_set (V U i : Nat) (hsame : ∀ j, j < 32 → j ≠ i → V / 256 ^ j % 256 = U / 256 ^ j % 256) : (litB V 32).set i (UInt8.ofNat (U / 256 ^ i)) = litB U 32 := by
 refine List.ext_getElem (by simp [litB_length]) fun j h1 h2 => ?_
 rw [List.getElem_set]
 rw [litB_at U 32 j h2]
 split
 · subst j; rfl
 · rw [litB_at]
   apply UInt8.toNat_inj.1
   simp only [UInt8.toNat_ofNat']
   rw [litB_length] at h2
   exact hsame j h2 (by omega)
theorem high_same (A j : Nat) (hj : j < 31) : A / 256 ^ j % 256 = (A + top) / 256 ^ j % 256 := by
 have h1 : (256 : Nat) ^ j * 256 * 256 ^ (30 - j) = 256 ^ 31 := by
   rw [← Nat.pow_succ, ← Nat.pow_add]
   congr 1
   omega
 have h2 : top = 256 ^ j * (256 * (256 ^ (30 - j) * 128)) := by
   have h3 : top = 256 ^ 31 * 128 := by decide +kernel
   rw [h3, ← h1]
   simp only [Nat.mul_assoc]
 rw [h2, Nat.add_mul_div_left _ _ (pow256_pos j), Nat.add_mul_mod_self_left]
theorem high_set (A : Nat) : (litB A 32).set 31 (UInt8.ofNat ((A + top) / 256 ^ 31)) = litB (A + top) 32 :=
 litB_set A (A + top) 31 fun j h1 h2 => high_same A j (by omega)
theorem high_lt (A : Nat) (h : A < p25) : A / 256 ^ 31 < 128 := by
 rw [Nat.div_lt_iff_lt_mul (pow256_pos 31)]
 exact Nat.lt_of_lt_of_le h (by decide +kernel)
theorem high_old (A : Nat) (h : A < p25) : (UInt8.ofNat (A / 256 ^ 31)).toNat = A / 256 ^ 31 := UInt8.toNat_ofNat_of_lt' (Nat.lt_trans (high_lt A h) (by decide))
theorem or_128 (q : Nat) (h : q < 128) : bits .or .u8 (q : Int) 128 = ((q + 128 : Nat) : Int) := by
 have g : ∀ q : Fin 128, bits .or .u8 ((q.val : Nat) : Int) 128 = ((q.val + 128 : Nat) : Int) := by decide +kernel
 exact g ⟨q, h⟩
theorem top_two : 256 ^ 32 = 2 * top := by decide +kernel
theorem numL_lit (V : Nat) (h : V < 2 * top) : numL (litB V 32) 32 = V := by
 rw [numL_litB V 32 32 (Nat.le_refl _), Nat.mod_eq_of_lt (by rw [top_two]; exact h)]
end Go.Proofs.YtonhpmaiagbheaaGreat
namespace Go.Proofs.YtonhpmaiagbheaaGreat
def decS (Y : Nat) : Nat := mulP (subP p25 (mulP Y Y) 1) (invP (addP (mulP dP (mulP Y Y)) 1))
def decX (Y : Nat) : Option Nat := rootL p25 t25 (decS Y)
def decN (l : List UInt8) : Option (Nat × Nat) :=
 if l.length = 32 ∧ numL l 32 % top < p25 then
   (decX (numL l 32 % top)).bind fun x => if numL l 32 / top = 1 ∧ x = 0 then none else some (if numL l 32 / top = 1 then oppP x else x, numL l 32 % top)
 else none
def encN (P : Nat × Nat) : Nat := P.2 + P.1 % 2 * top
theorem decS_lt (Y : Nat) : decS Y < p25 := mulP_lt _ _
theorem one_ltp : 1 < p25 := by decide +kernel
theorem v_ne (Y : Nat) : ¬ Z ((addP (mulP dP (mulP Y Y)) 1 : Nat) : Int) := fun h => by
 have h1 := Z_addP (mulP dP (mulP Y Y)) 1
 have h2 := Z_mulP dP (mulP Y Y)
 have h3 := Z_mulP Y Y
 have hd := d_c
 refine c_sqn (Y : Int) ?_
 generalize ((addP (mulP dP (mulP Y Y)) 1 : Nat) : Int) = v at *
 generalize ((mulP dP (mulP Y Y) : Nat) : Int) = m at *
 generalize ((mulP Y Y : Nat) : Int) = s at *
 generalize ((dP : Nat) : Int) = d at *
 generalize (Y : Int) = y at *
 generalize cE = c at *
 have k : Z (c + y * y - (c * v - y * y * (c * d - 1))) := by
   have e1 : Z (v - (d * s + 1)) := Z.lin2 1 1 h1 h2 (by grind)
   exact Z.lin2 (-c) (-(c * d)) e1 h3 (by grind)
 exact Z.lin3 1 c (-(y * y)) k h hd (by grind)
theorem decS_Z (Y : Nat) : Z ((decS Y : Int) * ((dP : Int) * ((Y : Int) * Y) + 1) - ((Y : Int) * Y - 1)) := by
 have hv := v_ne Y
 have h1 := Z_addP (mulP dP (mulP Y Y)) 1
 have h2 := Z_mulP dP (mulP Y Y)
 have h3 := Z_mulP Y Y
 have h4 := Z_subP (mulP Y Y) 1
 have h5 := Z_invP (addP_lt (mulP dP (mulP Y Y)) 1) hv
 have h6 := Z_mulP (subP p25 (mulP Y Y) 1) (invP (addP (mulP dP (mulP Y Y)) 1))
 have e : (mulP (subP p25 (mulP Y Y) 1) (invP (addP (mulP dP (mulP Y Y)) 1)) : Nat) = decS Y := rfl
 rw [e] at h6
 generalize ((decS Y : Nat) : Int) = q at *
 generalize ((invP (addP (mulP dP (mulP Y Y)) 1) : Nat) : Int) = i at *
 generalize ((addP (mulP dP (mulP Y Y)) 1 : Nat) : Int) = v at *
 generalize ((subP p25 (mulP Y Y) 1 : Nat) : Int) = u at *
 generalize ((mulP dP (mulP Y Y) : Nat) : Int) = m at *
 generalize ((mulP Y Y : Nat) : Int) = s at *
 generalize ((dP : Nat) : Int) = d at *
 generalize (Y : Int) = y at *
 have e1 : Z (v - (d * (y * y) + 1)) := Z.lin3 1 1 d h1 h2 h3 (by grind)
 have e2 : Z (u - (y * y - 1)) := Z.lin2 1 1 h4 h3 (by grind)
 have e3 : Z (q * v - u) := Z.lin2 v u h6 h5 (by grind)
 exact Z.lin3 1 1 (-q) e3 e2 e1 (by grind)
theorem onE_decS {x Y : Nat} (hx : x < p25) (hY : Y < p25) : onE (x, Y) ↔ mulP x x = decS Y := by
 have h1 := decS_Z Y
 have h2 := Z_mulP x x
 have hd := d_c
 have hc := c_ne
 have hn := v_ne Y
 have ha := Z_addP (mulP dP (mulP Y Y)) 1
 have hm := Z_mulP dP (mulP Y Y)
 have hs := Z_mulP Y Y
 constructor
 · rintro ⟨_, _, h⟩
   unfold EC at h
   refine Z.eq (mulP_lt _ _) (decS_lt _) ?_
   dsimp only at h
   generalize ((addP (mulP dP (mulP Y Y)) 1 : Nat) : Int) = v at *
   generalize ((mulP dP (mulP Y Y) : Nat) : Int) = m at *
   generalize ((mulP Y Y : Nat) : Int) = s at *
   generalize ((decS Y : Nat) : Int) = q at *
   generalize ((mulP x x : Nat) : Int) = z at *
   generalize ((dP : Nat) : Int) = d at *
   generalize (x : Int) = X at *
   generalize (Y : Int) = y at *
   generalize cE = c at *
   have ev : Z (v - (d * (y * y) + 1)) := Z.lin3 1 1 d ha hm hs (by grind)
   -- c v (x x - q) = 0
   have k1 : Z (c * ((X * X) * (d * (y * y) + 1) - (y * y - 1))) := Z.lin2 1 (X * X * (y * y)) h hd (by grind)
   have k2 : Z ((X * X) * (d * (y * y) + 1) - (y * y - 1)) := Z.cancel k1 hc
   have k3 : Z (v * (z - q)) := by
     have k4 : Z (z * (d * (y * y) + 1) - (y * y - 1)) := Z.lin2 1 (d * (y * y) + 1) k2 h2 (by grind)
     have k5 : Z ((d * (y * y) + 1) * (z - q)) := Z.lin2 1 (-1) k4 h1 (by grind)
     exact Z.lin2 1 (z - q) k5 ev (by grind)
   exact Z.cancel k3 hn
 · intro h
   refine ⟨hx, hY, ?_⟩
   unfold EC
   dsimp only
   rw [h] at h2
   generalize ((decS Y : Nat) : Int) = q at *
   generalize ((dP : Nat) : Int) = d at *
   generalize (x : Int) = X at *
   generalize (Y : Int) = y at *
   generalize cE = c at *
   have k2 : Z ((X * X) * (d * (y * y) + 1) - (y * y - 1)) := Z.lin2 1 (-(d * (y * y) + 1)) h1 h2 (by grind)
   exact Z.lin2 c (-(X * X * (y * y))) k2 hd (by grind)
theorem decX_some {Y x : Nat} (hY : Y < p25) (h : decX Y = some x) : onE (x, Y) ∧ x % 2 = 0 := by
 obtain ⟨h1, h2, h3⟩ := rootL_some prime_p25 t25_eq (decS_lt Y) h
 exact ⟨(onE_decS h3 hY).2 h1, h2⟩
theorem decX_of {x Y : Nat} (h : onE (x, Y)) : ∃ r, decX Y = some r ∧ (r = x ∨ r = oppP x) ∧ r % 2 = 0 ∧ r < p25 := by
 have h1 := (onE_decS h.1 h.2.1).1 h
 obtain ⟨r, hr, _, h3, h4, h5⟩ := root_square x h.1
 rw [h1] at hr
 exact ⟨r, hr, h5, h3, h4⟩
theorem oppP_odd {x : Nat} (hx : x < p25) (h0 : x ≠ 0) : oppP x % 2 = 1 - x % 2 := by
 have e : oppP x = p25 - x := by
   unfold oppP subP negP
   rw [Nat.zero_add, Nat.mod_mod, Nat.mod_eq_of_lt hx, Nat.mod_eq_of_lt (by omega)]
 have hp : p25 % 2 = 1 := by decide +kernel
 rw [e]
 omega
theorem top_pos' : 0 < top := by decide +kernel
theorem p25_ltop : p25 < top := by decide +kernel
theorem decN_some {l : List UInt8} {P : Nat × Nat} (h : decN l = some P) : l.length = 32 ∧ onE P ∧ encN P = numL l 32 := by
 unfold decN at h
 split at h
 · rename_i hc
   obtain ⟨hl, hY⟩ := hc
   refine ⟨hl, ?_⟩
   cases hx : decX (numL l 32 % top) with
   | none => rw [hx] at h; cases h
   | some x =>
     rw [hx, Option.bind_some] at h
     obtain ⟨hE, he⟩ := decX_some hY hx
     have hn : numL l 32 < 256 ^ 32 := numL_lt l 32
     rw [top_two] at hn
     have hdm := Nat.div_add_mod (numL l 32) top
     have hq : numL l 32 / top < 2 := by rw [Nat.div_lt_iff_lt_mul top_pos']; exact hn
     split at h
     · cases h
     · rename_i hz
       have e := Option.some.inj h
       by_cases h1 : numL l 32 / top = 1
       · rw [if_pos h1] at e
         have hx0 : x ≠ 0 := fun hx0 => hz ⟨h1, hx0⟩
         have ho := oppP_odd hE.1 hx0
         subst e
         refine ⟨negE_on hE, ?_⟩
         unfold encN
         dsimp only
         rw [ho, he, show 1 - 0 = 1 from rfl, Nat.one_mul]
         rw [h1] at hdm
         omega
       · rw [if_neg h1] at e
         have h0 : numL l 32 / top = 0 := by
           clear hdm
           generalize numL l 32 / top = q at *
           omega
         subst e
         refine ⟨hE, ?_⟩
         unfold encN
         dsimp only
         rw [he, Nat.zero_mul]
         rw [h0] at hdm
         omega
 · cases h
end Go.Proofs.YtonhpmaiagbheaaGreat
namespace Go.Proofs.YtonhpmaiagbheaaGreat
open Go.RowKit Go.Deep
def clampN (l : List UInt8) : Nat := numL l 32 % 2 ^ 254 / 8 * 8 + 2 ^ 254
def byteN (K i : Nat) : Nat := K / 256 ^ i % 256
theorem byteN_lt (K i : Nat) : byteN K i < 256 := Nat.mod_lt _ (by decide)
theorem byteN_numL (l : List UInt8) (i : Nat) (h : i < 32) : byteN (numL l 32) i = (l.getD i 0).toNat := numL_dig l 32 i h
theorem clamp_low (l : List UInt8) : byteN (clampN l) 0 = (l.getD 0 0).toNat / 8 * 8 := by
 rw [← byteN_numL l 0 (by decide)]
 unfold byteN clampN
 rw [Nat.pow_zero, Nat.div_one, Nat.div_one]
 have h8 : (2 : Nat) ^ 254 = 256 * 2 ^ 246 := by decide +kernel
 rw [h8]
 have h := Nat.mod_mul_right_mod (numL l 32) 256 (2 ^ 246)
 generalize (2 : Nat) ^ 246 = t at *
 generalize numL l 32 = N at *
 generalize N % (256 * t) = r at *
 omega
theorem clamp_mid (l : List UInt8) (i : Nat) (h0 : 0 < i) (h31 : i < 31) : byteN (clampN l) i = (l.getD i 0).toNat := by
 rw [← byteN_numL l i (by omega)]
 unfold byteN clampN
 obtain ⟨j, rfl⟩ : ∃ j, i = j + 1 := ⟨i - 1, by omega⟩
 have e : (2 : Nat) ^ 254 = 256 ^ (j + 1) * (256 * (256 ^ (29 - j) * 64)) := by
   have h1 : (256 : Nat) ^ (j + 1) * 256 * 256 ^ (29 - j) = 256 ^ 31 := by
     rw [← Nat.pow_succ, ← Nat.pow_add]
     congr 1
     omega
   have h3 : (2 : Nat) ^ 254 = 256 ^ 31 * 64 := by decide +kernel
   rw [h3, ← h1]
   simp only [Nat.mul_assoc]
 rw [e]
 generalize 256 ^ (29 - j) * 64 = t
 rw [Nat.add_mul_div_left _ _ (pow256_pos (j + 1)), Nat.add_mul_mod_self_left]
 have h2 : numL l 32 % (256 ^ (j + 1) * (256 * t)) / 8 * 8 / 256 ^ (j + 1) = numL l 32 % (256 ^ (j + 1) * (256 * t)) / 256 ^ (j + 1) := by
   generalize numL l 32 % (256 ^ (j + 1) * (256 * t)) = r
   have hp : (256 : Nat) ^ (j + 1) = 8 * (32 * 256 ^ j) := by rw [Nat.pow_succ]; omega
   rw [hp]
   generalize 32 * 256 ^ j = z
   rw [← Nat.div_div_eq_div_mul, ← Nat.div_div_eq_div_mul, Nat.mul_div_cancel _ (by decide)]
 rw [h2, Nat.mod_mul_right_div_self, Nat.mod_mul_right_mod]
theorem clamp_high (l : List UInt8) : byteN (clampN l) 31 = (l.getD 31 0).toNat % 64 + 64 := by
 rw [← byteN_numL l 31 (by decide)]
 unfold byteN clampN
 have e : (2 : Nat) ^ 254 = 256 ^ 31 * 64 := by decide +kernel
 have hp : (256 : Nat) ^ 31 = 8 * (32 * 256 ^ 30) := by decide +kernel
 have h2 : numL l 32 % (256 ^ 31 * 64) / 8 * 8 / 256 ^ 31 = numL l 32 % (256 ^ 31 * 64) / 256 ^ 31 := by
   generalize numL l 32 % (256 ^ 31 * 64) = r
   rw [hp]
   generalize 32 * 256 ^ 30 = z
   rw [← Nat.div_div_eq_div_mul, ← Nat.div_div_eq_div_mul, Nat.mul_div_cancel _ (by decide)]
 rw [e, Nat.add_mul_div_left _ _ (pow256_pos 31), h2, Nat.mod_mul_right_div_self]
 generalize numL l 32 / 256 ^ 31 = q
 omega
theorem and127N (x : Nat) (h : x < 256) : bits .and .u8 (x : Int) 127 = ((x % 128 : Nat) : Int) := by
 have g : ∀ q : Fin 256, bits .and .u8 ((q.val : Nat) : Int) 127 = ((q.val % 128 : Nat) : Int) := by decide +kernel
 exact g ⟨x, h⟩
theorem bit_at (K t : Nat) : byteN K (t / 8) / 2 ^ (t % 8) % 2 = K / 2 ^ t % 2 := by
 unfold byteN
 have e : K / 2 ^ t = K / 256 ^ (t / 8) / 2 ^ (t % 8) := by
   rw [Nat.div_div_eq_div_mul, show (256 : Nat) = 2 ^ 8 from rfl, ← Nat.pow_mul, ← Nat.pow_add]
   congr 2
   omega
 rw [e]
 generalize K / 256 ^ (t / 8) = A
 have hr : t % 8 < 8 := Nat.mod_lt _ (by decide)
 generalize t % 8 = r at hr
 rcases (show r = 0 ∨ r = 1 ∨ r = 2 ∨ r = 3 ∨ r = 4 ∨ r = 5 ∨ r = 6 ∨ r = 7 by omega) with rfl | rfl | rfl | rfl | rfl | rfl | rfl | rfl <;> omega
theorem wpList_quo8 {ops : Array Oper} {Q : Exit → Act → World → Prop} {a : Act} {w : World} {rest : List Oper} {o : Oper} (hgd : o.guard = none) (x y : Operand) (ho : o.op = .binOp .quo 3 x y 3) {t q : Nat}
   (hx : a.eval x = .int .i64 (t : Int)) (hy : a.eval y = .int .i64 8) (hq : q = t / 8) (ht : t < 1000) (h : wpList Tryz.prog ops Q rest (a.put o.dst (.int .i64 (q : Int))) w) : wpList Tryz.prog ops Q (o :: rest) a w := by
 refine wpList_value hgd (.int .i64 (q : Int)) ?_ h
 have h1 : IntKind.i64.wrap ((t : Int).tdiv 8) = (q : Int) := by
   rw [Int.tdiv_eq_ediv_of_nonneg (by omega), IntWalk.i64_in _ (by omega)]
   omega
 have h2 : IntKind.i64.wrap ((t : Int) / 8) = (q : Int) := by
   rw [IntWalk.i64_in _ (by omega)]
   omega
 clear hq h
 rw [exec_mkOp, ho]
 simp only [execOp, mkOp, hx, hy]
 go_simp
theorem wpList_rem8 {ops : Array Oper} {Q : Exit → Act → World → Prop} {a : Act} {w : World} {rest : List Oper} {o : Oper} (hgd : o.guard = none) (x y : Operand) (ho : o.op = .binOp .rem 3 x y 3) {t q : Nat}
   (hx : a.eval x = .int .i64 (t : Int)) (hy : a.eval y = .int .i64 8) (hq : q = t % 8) (ht : t < 1000) (h : wpList Tryz.prog ops Q rest (a.put o.dst (.int .i64 (q : Int))) w) : wpList Tryz.prog ops Q (o :: rest) a w := by
 refine wpList_value hgd (.int .i64 (q : Int)) ?_ h
 have h1 : (t : Int).tmod 8 = (q : Int) := by
   rw [Int.tmod_eq_emod_of_nonneg (by omega)]
   omega
 have h2 : IntKind.i64.wrap ((t : Int).tmod 8) = (q : Int) := by
   rw [h1, IntWalk.i64_in _ (by omega)]
 clear hq h
 rw [exec_mkOp, ho]
 simp only [execOp, mkOp, hx, hy]
 go_simp
theorem wpList_shr8 {ops : Array Oper} {Q : Exit → Act → World → Prop} {a : Act} {w : World} {rest : List Oper} {o : Oper} (hgd : o.guard = none) (x y : Operand) (ho : o.op = .binOp .shr 5 x y 3) {t r q : Nat}
   (hx : a.eval x = .int .u8 (t : Int)) (hy : a.eval y = .int .i64 (r : Int)) (hq : q = t / 2 ^ r) (hr : r < 8) (ht : t < 256) (h : wpList Tryz.prog ops Q rest (a.put o.dst (.int .u8 (q : Int))) w) : wpList Tryz.prog ops Q (o :: rest) a w := by
 refine wpList_value hgd (.int .u8 (q : Int)) ?_ h
 have h1 : (t : Int) / 2 ^ r = (q : Int) := by
   rw [hq]
   simp
 have h3 : IntKind.u8.wrap (q : Int) = (q : Int) := IntWalk.u8_in _ ⟨by omega, by have := Nat.div_le_self t (2 ^ r); omega⟩
 have h4 : ¬ ((r : Int) < 0) := by omega
 clear hq h
 rw [exec_mkOp, ho]
 simp only [execOp, mkOp, hx, hy]
 go_simp
theorem wpList_and1 {ops : Array Oper} {Q : Exit → Act → World → Prop} {a : Act} {w : World} {rest : List Oper} {o : Oper} (hgd : o.guard = none) (x y : Operand) (ho : o.op = .binOp .and 5 x y 5) {t q : Nat}
   (hx : a.eval x = .int .u8 (t : Int)) (hy : a.eval y = .int .u8 1) (hq : q = t % 2) (ht : t < 256) (h : wpList Tryz.prog ops Q rest (a.put o.dst (.int .u8 (q : Int))) w) : wpList Tryz.prog ops Q (o :: rest) a w := by
 refine wpList_value hgd (.int .u8 (q : Int)) ?_ h
 have h1 := bit_u8 t ht
 rw [← hq] at h1
 clear hq h
 rw [exec_mkOp, ho]
 simp only [execOp, mkOp, hx, hy]
 go_simp
theorem wpList_shr7 {ops : Array Oper} {Q : Exit → Act → World → Prop} {a : Act} {w : World} {rest : List Oper} {o : Oper} {ty : TypeId} (hgd : o.guard = none) (x y : Operand) (ho : o.op = .binOp .shr 5 x y ty) {t q : Nat}
   (hx : a.eval x = .int .u8 (t : Int)) (hy : a.eval y = .int .u64 7) (hq : q = t / 128) (ht : t < 256) (h : wpList Tryz.prog ops Q rest (a.put o.dst (.int .u8 (q : Int))) w) : wpList Tryz.prog ops Q (o :: rest) a w := by
 refine wpList_value hgd (.int .u8 (q : Int)) ?_ h
 have h1 : (t : Int) / 2 ^ 7 = (q : Int) := by omega
 have h2 : (t : Int) / 128 = (q : Int) := by omega
 have h3 : IntKind.u8.wrap (q : Int) = (q : Int) := IntWalk.u8_in _ ⟨by omega, by omega⟩
 clear hq h
 rw [exec_mkOp, ho]
 simp only [execOp, mkOp, hx, hy]
 go_simp
theorem wpList_shl1 {ops : Array Oper} {Q : Exit → Act → World → Prop} {a : Act} {w : World} {rest : List Oper} {o : Oper} {ty : TypeId} (hgd : o.guard = none) (x y : Operand) (ho : o.op = .binOp .shl 5 x y ty) {t q : Nat}
   (hx : a.eval x = .int .u8 (t : Int)) (hy : a.eval y = .int .u64 1) (hq : q = 2 * t % 256) (h : wpList Tryz.prog ops Q rest (a.put o.dst (.int .u8 (q : Int))) w) : wpList Tryz.prog ops Q (o :: rest) a w := by
 refine wpList_value hgd (.int .u8 (q : Int)) ?_ h
 have h1 : IntKind.u8.wrap ((t : Int) * 2 ^ 1) = (q : Int) := by rw [IntKind.wrap_u8]; omega
 have h2 : IntKind.u8.wrap ((t : Int) * 2) = (q : Int) := by rw [IntKind.wrap_u8]; omega
 clear hq h
 rw [exec_mkOp, ho]
 simp only [execOp, mkOp, hx, hy]
 go_simp
theorem or_even (s c : Nat) (hs : s < 256) (h2 : s % 2 = 0) (hc : c ≤ 1) : bits .or .u8 (s : Int) (c : Int) = ((s + c : Nat) : Int) := by
 have g : ∀ q : Fin 128, ∀ c : Fin 2, bits .or .u8 ((2 * q.val : Nat) : Int) ((c.val : Nat) : Int) = ((2 * q.val + c.val : Nat) : Int) := by decide +kernel
 have h := g ⟨s / 2, by omega⟩ ⟨c, by omega⟩
 simp only at h
 rwa [show 2 * (s / 2) = s by omega] at h
theorem wpList_or1 {ops : Array Oper} {Q : Exit → Act → World → Prop} {a : Act} {w : World} {rest : List Oper} {o : Oper} (hgd : o.guard = none) (x y : Operand) (ho : o.op = .binOp .or 5 x y 5) {t c q : Nat}
   (hx : a.eval x = .int .u8 (t : Int)) (hy : a.eval y = .int .u8 (c : Int)) (ht : t < 256) (h2 : t % 2 = 0) (hc : c ≤ 1) (hq : q = t + c) (h : wpList Tryz.prog ops Q rest (a.put o.dst (.int .u8 (q : Int))) w) : wpList Tryz.prog ops Q (o :: rest) a w := by
 refine wpList_value hgd (.int .u8 (q : Int)) ?_ h
 have h1 := or_even t c ht h2 hc
 rw [← hq] at h1
 clear hq h h2
 rw [exec_mkOp, ho]
 simp only [execOp, mkOp, hx, hy]
 go_simp
def cutB (l : List UInt8) : List UInt8 := l.set 31 (UInt8.ofNat ((l.getD 31 0).toNat % 128))
theorem owns_cap {W : World} {base g n c : Nat} {l : List UInt8} (h : Owns W base (.slice (some ⟨g, 0, none⟩) n c) l) : n ≤ c := by
 obtain ⟨_, _, he, hc, _⟩ := h.bs
 injection he with he1 he2 he3
 subst he3
 subst he2
 exact hc
theorem builtFe0 : Tryz.prog.built 61 [] = some (arrOf 16 (feF 0)) := by kernel_rfl
theorem exec_zeroFe {w : World} (ρ : Operand → Value) (t : TypeId) : (execOp ρ (mkOp (.build 61 #[]) t)).run Tryz.prog w = .ok (.value (.agg (arrOf 16 (feF 0)))) w := by
 have hr := run_build w 61 #[] (arrOf 16 (feF 0)) builtFe0
 simp [execOp, mkOp, hr, Result.andThen]
theorem wpList_load_cat {ops : Array Oper} {rest : List Oper} {o : Oper} {a : Act} {w : World} {Q : Exit → Act → World → Prop} (hgd : o.guard = none) (x : Operand) (ho : o.op = .load 5 x) {ad : Addr} {q : Nat} (hc : w.cell? ad = some (.int .u8 (q : Int)))
   (hx : a.eval x = .pointer (some ad)) (h : wpList Tryz.prog ops Q rest (a.put o.dst (.int .u8 (q : Int))) w) : wpList Tryz.prog ops Q (o :: rest) a w := by
 refine wpList_value hgd _ ?_ h
 rw [exec_mkOp, ho]
 exact exec_load_cell a.eval 5 x o.type hx (by kernel_rfl) hc
theorem numL_cut (l : List UInt8) (h : l.length = 32) : numL (cutB l) 32 = numL l 32 % top ∧ numL l 32 / top = (l.getD 31 0).toNat / 128 := by
 have e1 : ∀ k, k ≤ 31 → numL (cutB l) k = numL l k := by
   intro k
   induction k with
   | zero => intro _; rfl
   | succ k ih =>
     intro hk
     rw [numL, numL, ih (by omega)]
     congr 2
     unfold cutB
     rw [List.getD_eq_getElem?_getD, List.getElem?_set_ne (by omega), List.getD_eq_getElem?_getD]
 have hq : (l.getD 31 0).toNat < 256 := UInt8.toNat_lt _
 have e2 : ((cutB l).getD 31 0).toNat = (l.getD 31 0).toNat % 128 := by
   unfold cutB
   rw [List.getD_eq_getElem?_getD, List.getElem?_set_self (by omega)]
   exact UInt8.toNat_ofNat_of_lt' (show _ % 128 < 256 by omega)
 have ht : top = 256 ^ 31 * 128 := by decide +kernel
 have hn := numL_lt l 31
 rw [show numL (cutB l) 32 = numL (cutB l) 31 + ((cutB l).getD 31 0).toNat * 256 ^ 31 from rfl, show numL l 32 = numL l 31 + (l.getD 31 0).toNat * 256 ^ 31 from rfl, e1 31 (Nat.le_refl _), e2, ht]
 generalize (l.getD 31 0).toNat = q at *
 generalize numL l 31 = n at *
 have hp : 0 < 256 ^ 31 := Nat.pow_pos (by decide)
 generalize 256 ^ 31 = t at *
 have hdm := Nat.div_add_mod q 128
 have hr : q % 128 < 128 := Nat.mod_lt _ (by decide)
 have hq2 : q / 128 < 2 := by omega
 generalize q / 128 = a at *
 generalize q % 128 = r at *
 have e3 : n + q * t = n + r * t + t * 128 * a := by
   rw [← hdm, Nat.add_mul]
   rw [Nat.mul_right_comm, Nat.mul_comm 128 t]
   omega
 have e4 : n + r * t < t * 128 := by
   have h5 : (r + 1) * t ≤ 128 * t := Nat.mul_le_mul_right t (by omega)
   rw [Nat.add_mul, Nat.one_mul] at h5
   rw [Nat.mul_comm t 128]
   omega
 constructor
 · rw [e3, Nat.add_mul_mod_self_left, Nat.mod_eq_of_lt e4]
 · rw [e3, Nat.add_mul_div_left _ _ (by omega), Nat.div_eq_of_lt e4, Nat.zero_add]
theorem strict_cut (l : List UInt8) (h : l.length = 32) : strictL (cutB l) = if numL l 32 % top < p25 then some (numL l 32 % top) else none := by
 rw [strictL_eq, (numL_cut l h).1]
 have hl : (cutB l).length = 32 := by unfold cutB; rw [List.length_set, h]
 by_cases hp : numL l 32 % top < p25
 · rw [if_pos ⟨hl, hp⟩, if_pos hp]
 · rw [if_neg (fun k => hp k.2), if_neg hp]
theorem refStrict_cut (v : Value) (l C : List UInt8) (Y : Nat) (w : World) (h : Bs w v C) (hC : C = cutB l) (hl : l.length = 32) (hY : numL l 32 % top = Y) (hYl : Y < p25) :
   Calls Tryz.prog 95 #[v] w fun e w' => e = .returned (.tuple #[.agg (arrOf 16 (feF Y)), .int .i64 0]) ∧ Below w.heap.size w w' := by
 have g := refStrict_any v C w h
 have e : strictL C = some Y := by rw [hC, strict_cut l hl, hY, if_pos hYl]
 rw [e] at g
 exact g
theorem refRoot_some (A x : Nat) (w : World) (hA : A < p25) (hx : rootL p25 t25 A = some x) : Calls Tryz.prog 98 #[.agg (arrOf 16 (feF A))] w fun e w' => e = .returned (.tuple #[.agg (arrOf 16 (feF x)), .int .i64 0]) ∧ Below w.heap.size w w' := by
 have g := refRoot_any A w hA
 rw [hx] at g
 exact g
theorem refRoot_none (A : Nat) (w : World) (hA : A < p25) (hx : rootL p25 t25 A = none) : Calls Tryz.prog 98 #[.agg (arrOf 16 (feF A))] w fun e w' => e = .returned (.tuple #[.agg (arrOf 16 (feF 0)), .int .i64 7]) ∧ Below w.heap.size w w' := by
 have g := refRoot_any A w hA
 rw [hx] at g
 exact g
set_option maxHeartbeats 4000000 in
set_option maxRecDepth 10000 in
theorem refDecode_1 (v0 : Value) (l0 : List UInt8) (w : World) (h0 : Bs w v0 l0) (hl : ¬ l0.length = 32) : Calls Tryz.prog 44 #[v0] w fun e w' => e = .returned (.tuple #[.agg (arrOf 48 (ptF 0 1 1)), .int .i64 12]) ∧ Below w.heap.size w w' := by
 have B00 := Below.refl w.heap.size w
 obtain ⟨ad0, n0, c0, rfl, e0, y0, z0, hB0⟩ := h0.shape
 have q0 : ¬ (n0 : Int) = 32 := by omega
 clear h0 hB0 B00
 have Bw0 := Below.refl w.heap.size w
 have HGS : Hid (∀ wq : World, Below w.heap.size w wq → w.heap.size ≤ wq.heap.size) := Lib.hid fun wq h => h.size
 go_enter Tryz.func44, Tryz.ntmps44
 go_wp2_with (first
   | (have hgo := Bw0; clear hgo
      refine wpList_alloc_row rfl 63 rfl 48 (u64f fun _ => 0) zeroPt ?_
      intro b_t2 w1 lk r_t2 kk
      have l_t2 := zrl HGS Bw0 lk
      have Bw1 := zbt HGS Bw0 kk
      clear Bw0 kk lk)
   | (have hgo := Bw1; clear hgo
      go_at_call 80
      refine (refZero_any _).mono ?_
      rintro e w3 ⟨rfl, kk⟩
      replace r_t2 := zrb r_t2 kk
      have Bw2 := zbt HGS Bw1 kk
      clear Bw1 kk)
   | (have hgo := Bw2; clear hgo
      refine wpList_store_as rfl 63 (.tmp 2) (.tmp 16) rfl 48 (ptF 0 1 1) arrP r_t2 rfl rfl (by omega) (fun j _ => ptF_one _ _ _ j) (fun i hi => putN_whole hi) ?_
      intro w4 q gk
      replace r_t2 := q
      have Bw3 := zbg HGS Bw2 gk l_t2
      clear Bw2 gk q))
 exact ret_cell_as_tmp _ rfl arrP r_t2 rfl rfl (by omega) (fun _ _ => rfl) rfl ⟨rfl, Bw3⟩
set_option maxHeartbeats 4000000 in
set_option maxRecDepth 10000 in
theorem refDecode_2 (v0 : Value) (l0 : List UInt8) (w : World) (h0 : Bs w v0 l0) (hl : l0.length = 32) (hY : ¬ numL l0 32 % top < p25) : Calls Tryz.prog 44 #[v0] w fun e w' => e = .returned (.tuple #[.agg (arrOf 48 (ptF 0 1 1)), .int .i64 12]) ∧ Below w.heap.size w w' := by
 have HY_ := Lib.hid hY
 clear hY
 obtain ⟨gb, off, c0, rfl, y0, z0, hgb, hcells⟩ := h0.open_n hl (by decide)
 have HL := Lib.hid hl
 have HF0 := Lib.hid h0
 obtain ⟨q, hq⟩ := nat_var ((l0.getD 31 0).toNat)
 have hql : q < 256 := by rw [hq]; exact UInt8.toNat_lt _
 have a1 := and127N q hql
 obtain ⟨u, hu⟩ := nat_var (q % 128)
 rw [← hu] at a1
 have a2 : (q : Int) % 128 = (u : Int) := by omega
 have HUL : Hid (u < 256) := Lib.hid (by omega)
 have HQL := Lib.hid hql
 have HSG : Hid (numL l0 32 / top = q / 128) := Lib.hid (by rw [(numL_cut l0 hl).2, ← hq])
 have HCB : Hid (cutB l0 = l0.set 31 (UInt8.ofNat u)) := Lib.hid (by rw [hu, hq]; rfl)
 obtain ⟨CL, hCL⟩ : ∃ C, C = cutB l0 := ⟨_, rfl⟩
 have HCL := Lib.hid hCL
 have HST := Lib.hid fun v w h => refStrict_any v (cutB l0) w h
 rw [strict_cut l0 hl] at HST
 rw [if_neg HY_.out] at HST
 simp only [Option.getD_none, strictE, Option.isSome_none, eq_self, if_true, Bool.false_eq_true, if_false] at HST
 rw [← hCL] at HST
 rw [← hCL] at HCB
 have HQ : Hid (∀ h : 31 < l0.length, (l0[31]'h).toNat = q) := Lib.hid fun h => by rw [hq, List.getD_eq_getElem?_getD, List.getElem?_eq_getElem h]; rfl
 have HC31 : Hid (∀ W, Below w.heap.size w W → W.cell? ⟨gb, off + 31, none⟩ = some (.int .u8 (q : Int))) := Lib.hid fun W hW => (bs_cell (h0.below hW (Nat.le_refl _)) 31 (by rw [hl]; decide)).trans (by rw [HQ.out])
 clear hCL hq hql hu hcells h0 hl
 clear HY_
 have Bw0 := Below.refl w.heap.size w
 have HGS : Hid (∀ wq : World, Below w.heap.size w wq → w.heap.size ≤ wq.heap.size) := Lib.hid fun wq h => h.size
 go_enter Tryz.func44, Tryz.ntmps44
 go_wp2_with (first
   | (have hgo := Bw0; clear hgo
      refine wpList_alloc_row rfl 63 rfl 48 (u64f fun _ => 0) zeroPt ?_
      intro b_t2 w1 lk r_t2 kk
      have l_t2 := zrl HGS Bw0 lk
      have Bw1 := zbt HGS Bw0 kk
      clear Bw0 kk lk
      have O1 := Owns.empty w1
      have k1 := (Below.refl w1.heap.size w1).alloc (Nat.le_refl _) (.cells #[] 5)
      have F1 := (HF0.out.below Bw1 (Nat.le_refl _)).below k1 (Nat.le_refl _))
   | (have hgo := Bw1; clear hgo
      refine wpList_app rfl (.tmp 17) (.tmp 18) rfl w1.heap.size _ _ [] l0 O1 F1 rfl rfl (by simp [HL.out]) (by simp) ?_
      intro v2 w2 ho hgr
      obtain ⟨g, cap, hv, hg, hgs, _, _⟩ := (show Owns w2 w1.heap.size v2 l0 from ho).open_cons (by rw [HL.out]; decide)
      rw [HL.out] at hv
      subst hv
      have o2 : Owns w2 w1.heap.size (.slice (some ⟨g, 0, none⟩) 32 cap) l0 := ho
      have hcap := owns_cap o2
      have C2 := k1.grown hgr (by simp) (fun k hk => by simp [Value.ownBlock] at hk; omega)
      clear O1 F1 k1 ho hgr)
   | (refine wpList_load_byte rfl (.tmp 22) rfl 31 q o2 HL.out.symm (by rw [HL.out]; decide) rfl (HQ.out _) ?_)
   | (refine wpList_store_byte rfl (.tmp 25) (.tmp 24) rfl 31 u o2 HL.out.symm hcap (by rw [HL.out]; decide) rfl rfl HUL.out ?_
      intro w3 o3 g3
      have C3 := C2.grown g3 C2.size (by intro k hk; cases hk; exact hg)
      have Bw2 := Bw1.trans (C3.mono (HGS.out _ Bw1))
      replace r_t2 := World.rowIs.of_block r_t2 (C3.block _ (World.rowIs.lt r_t2))
      rw [← HCB.out] at o3
      have f_c := o3.bs
      clear o2 C2 C3 Bw1 g3 o3)
   | (have hgo := Bw2; clear hgo
      go_at_call 95
      refine (HST.out _ _ f_c).mono ?_
      rintro e w12 ⟨rfl, kk⟩
      replace r_t2 := zrb r_t2 kk
      have Bw3 := zbt HGS Bw2 kk
      clear Bw2 kk)
   | (have hgo := Bw3; clear hgo
      refine wpList_alloc_row rfl 61 rfl 16 (u64f fun _ => 0) zeroFe ?_
      intro b_t5 w16 lk r_t5 kk
      have n_t2_t5 := zrn r_t2 lk
      have l_t5 := zrl HGS Bw3 lk
      replace r_t2 := zrb r_t2 kk
      have Bw4 := zbt HGS Bw3 kk
      clear Bw3 kk lk)
   | (have hgo := Bw4; clear hgo
      refine wpList_store_as rfl 61 (.tmp 5) (.tmp 29) rfl 16 (feF 0) arrFe r_t5 rfl rfl (by omega) (fun _ _ => rfl) (fun i hi => putN_whole hi) ?_
      intro w17 q gk
      replace r_t2 := gb_rowIs r_t2 gk n_t2_t5
      replace r_t5 := q
      have Bw5 := zbg HGS Bw4 gk l_t5
      clear Bw4 gk q)
   | (have hgo := Bw5; clear hgo
      go_at_call 80
      refine (refZero_any _).mono ?_
      rintro e w19 ⟨rfl, kk⟩
      replace r_t2 := zrb r_t2 kk
      replace r_t5 := zrb r_t5 kk
      have Bw6 := zbt HGS Bw5 kk
      clear Bw5 kk)
   | (have hgo := Bw6; clear hgo
      refine wpList_store_as rfl 63 (.tmp 2) (.tmp 33) rfl 48 (ptF 0 1 1) arrP r_t2 rfl rfl (by omega) (fun j _ => ptF_one _ _ _ j) (fun i hi => putN_whole hi) ?_
      intro w20 q gk
      replace r_t5 := gb_rowIs r_t5 gk (Ne.symm n_t2_t5)
      replace r_t2 := q
      have Bw7 := zbg HGS Bw6 gk l_t2
      clear Bw6 gk q))
 exact ret_cell_as_tmp _ rfl arrP r_t2 rfl rfl (by omega) (fun _ _ => rfl) rfl ⟨rfl, Bw7⟩
set_option maxHeartbeats 4000000 in
set_option maxRecDepth 10000 in
theorem refDecode_r (v0 : Value) (l0 : List UInt8) (w : World) (h0 : Bs w v0 l0) (hl : l0.length = 32) (hYl : numL l0 32 % top < p25) (R : Value) (H3 : decX (numL l0 32 % top) = none → R = .tuple #[.agg (arrOf 48 (ptF 0 1 1)), .int .i64 12]) (H4 : ∀ x, decX (numL l0 32 % top) = some x → numL l0 32 / top = 1 → x = 0 → R = .tuple #[.agg (arrOf 48 (ptF 0 1 1)), .int .i64 12]) (H5 : ∀ x, decX (numL l0 32 % top) = some x → numL l0 32 / top = 0 → R = .tuple #[.agg (arrOf 48 (ptF x (numL l0 32 % top) 1)), .int .i64 0]) (H7 : ∀ x, decX (numL l0 32 % top) = some x → numL l0 32 / top = 1 → x ≠ 0 → R = .tuple #[.agg (arrOf 48 (ptF (oppP x) (numL l0 32 % top) 1)), .int .i64 0]) : Calls Tryz.prog 44 #[v0] w fun e w' => e = .returned R ∧ Below w.heap.size w w' := by
 have HYL := Lib.hid hYl
 have H3 := Lib.hid H3
 have H4 := Lib.hid H4
 have H5 := Lib.hid H5
 have H7 := Lib.hid H7
 clear hYl
 obtain ⟨gb, off, c0, rfl, y0, z0, hgb, hcells⟩ := h0.open_n hl (by decide)
 have HL := Lib.hid hl
 have HF0 := Lib.hid h0
 obtain ⟨q, hq⟩ := nat_var ((l0.getD 31 0).toNat)
 have hql : q < 256 := by rw [hq]; exact UInt8.toNat_lt _
 have a1 := and127N q hql
 obtain ⟨u, hu⟩ := nat_var (q % 128)
 rw [← hu] at a1
 have a2 : (q : Int) % 128 = (u : Int) := by omega
 have HUL : Hid (u < 256) := Lib.hid (by omega)
 have HQL := Lib.hid hql
 have HSG : Hid (numL l0 32 / top = q / 128) := Lib.hid (by rw [(numL_cut l0 hl).2, ← hq])
 have HCB : Hid (cutB l0 = l0.set 31 (UInt8.ofNat u)) := Lib.hid (by rw [hu, hq]; rfl)
 obtain ⟨CL, hCL⟩ : ∃ C, C = cutB l0 := ⟨_, rfl⟩
 have HCL := Lib.hid hCL
 rw [← hCL] at HCB
 have HQ : Hid (∀ h : 31 < l0.length, (l0[31]'h).toNat = q) := Lib.hid fun h => by rw [hq, List.getD_eq_getElem?_getD, List.getElem?_eq_getElem h]; rfl
 have HC31 : Hid (∀ W, Below w.heap.size w W → W.cell? ⟨gb, off + 31, none⟩ = some (.int .u8 (q : Int))) := Lib.hid fun W hW => (bs_cell (h0.below hW (Nat.le_refl _)) 31 (by rw [hl]; decide)).trans (by rw [HQ.out])
 clear hCL hq hql hu hcells h0 hl
 obtain ⟨Y, hYv⟩ := nat_var (numL l0 32 % top)
 have HYv : Hid (numL l0 32 % top = Y) := Lib.hid hYv.symm
 have HY : Hid (Y < p25) := Lib.hid (by rw [hYv]; exact HYL.out)
 clear hYv HYL
 have Bw0 := Below.refl w.heap.size w
 have HGS : Hid (∀ wq : World, Below w.heap.size w wq → w.heap.size ≤ wq.heap.size) := Lib.hid fun wq h => h.size
 go_enter Tryz.func44, Tryz.ntmps44
 go_wp2_with (first
   | (have hgo := Bw0; clear hgo
      refine wpList_alloc_row rfl 63 rfl 48 (u64f fun _ => 0) zeroPt ?_
      intro b_t2 w1 lk r_t2 kk
      have l_t2 := zrl HGS Bw0 lk
      have Bw1 := zbt HGS Bw0 kk
      clear Bw0 kk lk
      have O1 := Owns.empty w1
      have k1 := (Below.refl w1.heap.size w1).alloc (Nat.le_refl _) (.cells #[] 5)
      have F1 := (HF0.out.below Bw1 (Nat.le_refl _)).below k1 (Nat.le_refl _))
   | (have hgo := Bw1; clear hgo
      refine wpList_app rfl (.tmp 17) (.tmp 18) rfl w1.heap.size _ _ [] l0 O1 F1 rfl rfl (by simp [HL.out]) (by simp) ?_
      intro v2 w2 ho hgr
      obtain ⟨g, cap, hv, hg, hgs, _, _⟩ := (show Owns w2 w1.heap.size v2 l0 from ho).open_cons (by rw [HL.out]; decide)
      rw [HL.out] at hv
      subst hv
      have o2 : Owns w2 w1.heap.size (.slice (some ⟨g, 0, none⟩) 32 cap) l0 := ho
      have hcap := owns_cap o2
      have C2 := k1.grown hgr (by simp) (fun k hk => by simp [Value.ownBlock] at hk; omega)
      clear O1 F1 k1 ho hgr)
   | (refine wpList_load_byte rfl (.tmp 22) rfl 31 q o2 HL.out.symm (by rw [HL.out]; decide) rfl (HQ.out _) ?_)
   | (refine wpList_store_byte rfl (.tmp 25) (.tmp 24) rfl 31 u o2 HL.out.symm hcap (by rw [HL.out]; decide) rfl rfl HUL.out ?_
      intro w3 o3 g3
      have C3 := C2.grown g3 C2.size (by intro k hk; cases hk; exact hg)
      have Bw2 := Bw1.trans (C3.mono (HGS.out _ Bw1))
      replace r_t2 := World.rowIs.of_block r_t2 (C3.block _ (World.rowIs.lt r_t2))
      rw [← HCB.out] at o3
      have f_c := o3.bs
      clear o2 C2 C3 Bw1 g3 o3)
   | (have hgo := Bw2; clear hgo
      go_at_call 95
      refine (refStrict_cut _ l0 CL Y _ f_c HCL.out HL.out HYv.out HY.out).mono ?_
      rintro e w12 ⟨rfl, kk⟩
      replace r_t2 := zrb r_t2 kk
      have Bw3 := zbt HGS Bw2 kk
      clear Bw2 kk)
   | (have hgo := Bw3; clear hgo
      refine wpList_alloc_row rfl 61 rfl 16 (u64f fun _ => 0) zeroFe ?_
      intro b_t5 w16 lk r_t5 kk
      have n_t2_t5 := zrn r_t2 lk
      have l_t5 := zrl HGS Bw3 lk
      replace r_t2 := zrb r_t2 kk
      have Bw4 := zbt HGS Bw3 kk
      clear Bw3 kk lk)
   | (have hgo := Bw4; clear hgo
      refine wpList_store_as rfl 61 (.tmp 5) (.tmp 29) rfl 16 (feF Y) arrFe r_t5 rfl rfl (by omega) (fun _ _ => rfl) (fun i hi => putN_whole hi) ?_
      intro w17 q gk
      replace r_t2 := gb_rowIs r_t2 gk n_t2_t5
      replace r_t5 := q
      have Bw5 := zbg HGS Bw4 gk l_t5
      clear Bw4 gk q)
   | (have hgo := Bw5; clear hgo
      refine wpList_load_as rfl 61 (.tmp 5) rfl 16 (feF Y) arrFe r_t5 rfl (by omega) (fun i hi => by rw [Nat.zero_add]) ?_
      have Bw6 := Bw5
      clear Bw5)
   | (have hgo := Bw6; clear hgo
      refine wpList_load_as rfl 61 (.tmp 5) rfl 16 (feF Y) arrFe r_t5 rfl (by omega) (fun i hi => by rw [Nat.zero_add]) ?_
      have Bw7 := Bw6
      clear Bw6)
   | (have hgo := Bw7; clear hgo
      go_at_call 76
      refine (refMul5_any Y Y _ HY.out HY.out).mono ?_
      rintro e w21 ⟨rfl, kk⟩
      replace r_t2 := zrb r_t2 kk
      replace r_t5 := zrb r_t5 kk
      have Bw8 := zbt HGS Bw7 kk
      clear Bw7 kk)
   | (have hgo := Bw8; clear hgo
      refine wpList_alloc_row rfl 61 rfl 16 (u64f fun _ => 0) zeroFe ?_
      intro b_t7 w22 lk r_t7 kk
      have n_t2_t7 := zrn r_t2 lk
      have n_t5_t7 := zrn r_t5 lk
      have l_t7 := zrl HGS Bw8 lk
      replace r_t2 := zrb r_t2 kk
      replace r_t5 := zrb r_t5 kk
      have Bw9 := zbt HGS Bw8 kk
      clear Bw8 kk lk)
   | (have hgo := Bw9; clear hgo
      refine wpList_store_as rfl 61 (.tmp 7) (.tmp 36) rfl 16 (feF (mulP Y Y)) arrFe r_t7 rfl rfl (by omega) (fun _ _ => rfl) (fun i hi => putN_whole hi) ?_
      intro w23 q gk
      replace r_t2 := gb_rowIs r_t2 gk n_t2_t7
      replace r_t5 := gb_rowIs r_t5 gk n_t5_t7
      replace r_t7 := q
      have Bw10 := zbg HGS Bw9 gk l_t7
      clear Bw9 gk q))
 have Bw11 := Bw10.drew
 replace r_t2 := World.rowIs.drew r_t2
 replace r_t5 := World.rowIs.drew r_t5
 replace r_t7 := World.rowIs.drew r_t7
 clear Bw10
 refine zpo [] (.rd 0 .done) #[true, false, false, false, false] [1, 2, 3, 4] [some 38, some 39, some 8, none] [[], [0], [], [0, 1, 2]] [(0, []), (1, []), (2, [0, 1, 1]), (3, []), (4, [3, 2, 2, 0, 1, 2, 3])] 1 ?_
 refine zld (feF (mulP Y Y)) arrFe r_t7 rfl (fun i hi => by rw [Nat.zero_add]) rfl rfl rfl rfl rfl (by omega) ?_
 simp only [Act.put, zA, zB, zC]
 refine lintz_leaf ?_
 refine po_start [.val (.agg (arrOf 16 (feF 1))), .val (.agg (arrOf 16 (feF (subP p25 (mulP Y Y) 1)))), .row 61 16 (u64f fun _ => 0) 3 (feF (subP p25 (mulP Y Y) 1)), .nil] [] (fun i hi => absurd hi (Nat.not_lt_zero _)) (fun HWF m gz wa p az hp hm hmp hcl hdn hE hJ hS hO => ?_) (fun gz wa hE hJ => ?_)
 · rcases (show p = 0 ∨ p = 1 ∨ p = 2 ∨ p = 3 by have h9 : p < 4 := hp; omega) with rfl | rfl | rfl | rfl
   · exact po_k HWF hJ hE (refSmall_any 1 _ (by decide)) rfl rfl rfl rfl rfl rfl (ar1 rfl)
   · have e37 : az.eval (.tmp 37) = .agg (arrOf 16 (feF (mulP Y Y))) := hO 37 rfl
     exact po_k HWF hJ hE (refSub_any (mulP Y Y) 1 _ (mulP_lt _ _) (by decide +kernel)) rfl rfl rfl rfl rfl rfl (ar2 e37 (po_e hS hdn hJ 0 38 rfl rfl rfl rfl))
   · exact po_alloc 8 _ 61 16 (u64f fun _ => 0) _ _ HWF hJ rfl (po_notyet hcl hmp (by rw [hm]; exact hp) (by decide)) hE rfl rfl rfl rfl rfl rfl zeroFe
   · exact po_sr 2 hm hp hmp hdn hJ hE rfl rfl rfl rfl rfl rfl rfl rfl (po_e0 hS hdn 2 8 rfl rfl rfl) (po_e hS hdn hJ 1 39 rfl rfl rfl rfl) arrFe (fun _ _ => rfl)
 · obtain ⟨b_t8, p_t8, lk_t8, r_t8, d_t8⟩ := hJ.row 2 (by decide) rfl (by decide)
   rw [putO_true _ _ _ _ _ rfl]
   simp only [putA, Nat.zero_add, Nat.reduceAdd]
   rw [hJ.tt 0 rfl, hJ.tt 1 rfl, p_t8]
   simp only [Act.put, zA, zB, zC]
   refine po_end ?_
   have n_t2_t8 := zrn r_t2 lk_t8
   have n_t5_t8 := zrn r_t5 lk_t8
   have n_t7_t8 := zrn r_t7 lk_t8
   have l_t8 := zrl HGS Bw11 lk_t8
   replace r_t2 := Keep.row hE r_t2 rfl
   replace r_t5 := Keep.row hE r_t5 rfl
   replace r_t7 := Keep.row hE r_t7 rfl
   have Bw12 := hE.below Bw11 (HGS.out _ Bw11) rfl
   clear Bw11 hE hJ p_t8 lk_t8 d_t8
   go_wp2
   have Bw13 := Bw12.drew
   replace r_t2 := World.rowIs.drew r_t2
   replace r_t5 := World.rowIs.drew r_t5
   replace r_t7 := World.rowIs.drew r_t7
   replace r_t8 := World.rowIs.drew r_t8
   clear Bw12
   refine zpo [] (.rd 1 .done) #[false, true, false, false, false, false, false] [0, 2, 3, 4, 5, 6] [some 40, some 42, some 43, some 44, some 9, none] [[], [0], [1], [1, 2], [], [0, 1, 2, 3, 4]] [(0, []), (1, []), (2, [0, 1, 0]), (3, [2]), (4, [2, 3, 3]), (5, []), (6, [5, 4, 4, 0, 1, 2, 3, 4, 5])] 2 ?_
   refine zld (feF (mulP Y Y)) arrFe r_t7 rfl (fun i hi => by rw [Nat.zero_add]) rfl rfl rfl rfl rfl (by omega) ?_
   simp only [Act.put, zA, zB, zC]
   refine lintz_leaf ?_
   refine po_start [.val (.agg (arrOf 16 (feF dP))), .val (.agg (arrOf 16 (feF (mulP dP (mulP Y Y))))), .val (.agg (arrOf 16 (feF 1))), .val (.agg (arrOf 16 (feF (addP (mulP dP (mulP Y Y)) 1)))), .row 61 16 (u64f fun _ => 0) 5 (feF (addP (mulP dP (mulP Y Y)) 1)), .nil] [] (fun i hi => absurd hi (Nat.not_lt_zero _)) (fun HWF m gz wa p az hp hm hmp hcl hdn hE hJ hS hO => ?_) (fun gz wa hE hJ => ?_)
   · rcases (show p = 0 ∨ p = 1 ∨ p = 2 ∨ p = 3 ∨ p = 4 ∨ p = 5 by have h9 : p < 6 := hp; omega) with rfl | rfl | rfl | rfl | rfl | rfl
     · exact po_k HWF hJ hE (curve_any _) rfl rfl rfl rfl rfl rfl (ar0)
     · have e41 : az.eval (.tmp 41) = .agg (arrOf 16 (feF (mulP Y Y))) := hO 41 rfl
       exact po_k HWF hJ hE (refMul5_any dP (mulP Y Y) _ dP_lt (mulP_lt _ _)) rfl rfl rfl rfl rfl rfl (ar2 (po_e hS hdn hJ 0 40 rfl rfl rfl rfl) e41)
     · exact po_k HWF hJ hE (refSmall_any 1 _ (by decide)) rfl rfl rfl rfl rfl rfl (ar1 rfl)
     · exact po_k HWF hJ hE (refAdd5_any (mulP dP (mulP Y Y)) 1 _ (mulP_lt _ _) (by decide +kernel)) rfl rfl rfl rfl rfl rfl (ar2 (po_e hS hdn hJ 1 42 rfl rfl rfl rfl) (po_e hS hdn hJ 2 43 rfl rfl rfl rfl))
     · exact po_alloc 9 _ 61 16 (u64f fun _ => 0) _ _ HWF hJ rfl (po_notyet hcl hmp (by rw [hm]; exact hp) (by decide)) hE rfl rfl rfl rfl rfl rfl zeroFe
     · exact po_sr 4 hm hp hmp hdn hJ hE rfl rfl rfl rfl rfl rfl rfl rfl (po_e0 hS hdn 4 9 rfl rfl rfl) (po_e hS hdn hJ 3 44 rfl rfl rfl rfl) arrFe (fun _ _ => rfl)
   · obtain ⟨b_t9, p_t9, lk_t9, r_t9, d_t9⟩ := hJ.row 4 (by decide) rfl (by decide)
     rw [putO_true _ _ _ _ _ rfl]
     simp only [putA, Nat.zero_add, Nat.reduceAdd]
     rw [hJ.tt 0 rfl, hJ.tt 1 rfl, hJ.tt 2 rfl, hJ.tt 3 rfl, p_t9]
     simp only [Act.put, zA, zB, zC]
     refine po_end ?_
     have n_t2_t9 := zrn r_t2 lk_t9
     have n_t5_t9 := zrn r_t5 lk_t9
     have n_t7_t9 := zrn r_t7 lk_t9
     have n_t8_t9 := zrn r_t8 lk_t9
     have l_t9 := zrl HGS Bw13 lk_t9
     replace r_t2 := Keep.row hE r_t2 rfl
     replace r_t5 := Keep.row hE r_t5 rfl
     replace r_t7 := Keep.row hE r_t7 rfl
     replace r_t8 := Keep.row hE r_t8 rfl
     have Bw14 := hE.below Bw13 (HGS.out _ Bw13) rfl
     clear Bw13 hE hJ p_t9 lk_t9 d_t9
     have hsg2 : q / 128 = 0 ∨ q / 128 = 1 := by have := HQL.out; omega
     cases hx : decX Y with
     | none =>
       have HRT := Lib.hid fun w => refRoot_none (decS Y) w (decS_lt Y) hx
       unfold decS at HRT
       obtain rfl := H3.out (by rw [HYv.out]; exact hx)
       clear H4 H5 H7 HSG hx
       go_wp2
       have Bw15 := Bw14.drew
       replace r_t2 := World.rowIs.drew r_t2
       replace r_t5 := World.rowIs.drew r_t5
       replace r_t7 := World.rowIs.drew r_t7
       replace r_t8 := World.rowIs.drew r_t8
       replace r_t9 := World.rowIs.drew r_t9
       clear Bw14
       refine zpo [] (.rd 0 (.rd 1 .done)) #[true, true, false, false, false, false, false, false, false, false, false] [2, 3, 4, 5, 6, 7, 8, 9, 10] [some 48, some 49, some 50, some 45, some 51, some 52, some 10, none, some 11] [[], [0], [1], [2], [3], [3], [], [0, 1, 2, 3, 4, 6], [0, 1, 2, 3, 4, 5, 6, 7]] [(0, []), (1, []), (2, [1]), (3, [0, 2, 2]), (4, [3, 3]), (5, [4]), (6, [5]), (7, [5]), (8, []), (9, [8, 6, 4, 0, 1, 2, 3, 4, 5, 6, 8]), (10, [7, 9, 0, 1, 2, 3, 4, 5, 6, 7, 8, 9])] 3 ?_
       refine zld (feF (subP p25 (mulP Y Y) 1)) arrFe r_t8 rfl (fun i hi => by rw [Nat.zero_add]) rfl rfl rfl rfl rfl (by omega) ?_
       refine zld (feF (addP (mulP dP (mulP Y Y)) 1)) arrFe r_t9 rfl (fun i hi => by rw [Nat.zero_add]) rfl rfl rfl rfl rfl (by omega) ?_
       simp only [Act.put, zA, zB, zC]
       refine lintz_leaf ?_
       refine po_start [.val (.agg (arrOf 16 (feF (invP (addP (mulP dP (mulP Y Y)) 1))))), .val (.agg (arrOf 16 (feF (mulP (subP p25 (mulP Y Y) 1) (invP (addP (mulP dP (mulP Y Y)) 1)))))), .val (.tuple #[.agg (arrOf 16 (feF 0)), .int .i64 7]), .val (.tuple #[.agg (arrOf 16 (feF 0)), .int .i64 7]), .val (.agg (arrOf 16 (feF 0))), .val (.int .i64 7), .row 61 16 (u64f fun _ => 0) 7 (feF 0), .nil, .val (.int .i64 7)] [] (fun i hi => absurd hi (Nat.not_lt_zero _)) (fun HWF m gz wa p az hp hm hmp hcl hdn hE hJ hS hO => ?_) (fun gz wa hE hJ => ?_)
       · rcases (show p = 0 ∨ p = 1 ∨ p = 2 ∨ p = 3 ∨ p = 4 ∨ p = 5 ∨ p = 6 ∨ p = 7 ∨ p = 8 by have h9 : p < 9 := hp; omega) with rfl | rfl | rfl | rfl | rfl | rfl | rfl | rfl | rfl
         · have e47 : az.eval (.tmp 47) = .agg (arrOf 16 (feF (addP (mulP dP (mulP Y Y)) 1))) := hO 47 rfl
           exact po_k HWF hJ hE (refInv5_any (addP (mulP dP (mulP Y Y)) 1) _ (addP_lt _ _)) rfl rfl rfl rfl rfl rfl (ar1 e47)
         · have e46 : az.eval (.tmp 46) = .agg (arrOf 16 (feF (subP p25 (mulP Y Y) 1))) := hO 46 rfl
           exact po_k HWF hJ hE (refMul5_any (subP p25 (mulP Y Y) 1) (invP (addP (mulP dP (mulP Y Y)) 1)) _ (subP_lt _ _) (invP_lt _)) rfl rfl rfl rfl rfl rfl (ar2 e46 (po_e hS hdn hJ 0 48 rfl rfl rfl rfl))
         · exact po_k HWF hJ hE (HRT.out _) rfl rfl rfl rfl rfl rfl (ar1 (po_e hS hdn hJ 1 49 rfl rfl rfl rfl))
         · exact po_p _ HWF hJ hE rfl rfl rfl rfl rfl rfl rfl (x_move (po_e hS hdn hJ 2 50 rfl rfl rfl rfl))
         · have e45 := po_e hS hdn hJ 3 45 rfl rfl rfl rfl
           exact po_p (Op.extract (Operand.tmp 45) 0) HWF hJ hE rfl rfl rfl rfl rfl rfl rfl (by first | (simp only [execOp, mkOp, eval_const, e45]; done) | (simp only [execOp, mkOp, eval_const, e45]; go_simp))
         · have e45 := po_e hS hdn hJ 3 45 rfl rfl rfl rfl
           exact po_p (Op.extract (Operand.tmp 45) 1) HWF hJ hE rfl rfl rfl rfl rfl rfl rfl (by first | (simp only [execOp, mkOp, eval_const, e45]; done) | (simp only [execOp, mkOp, eval_const, e45]; go_simp))
         · exact po_alloc 10 _ 61 16 (u64f fun _ => 0) _ _ HWF hJ rfl (po_notyet hcl hmp (by rw [hm]; exact hp) (by decide)) hE rfl rfl rfl rfl rfl rfl zeroFe
         · exact po_sr 6 hm hp hmp hdn hJ hE rfl rfl rfl rfl rfl rfl rfl rfl (po_e0 hS hdn 6 10 rfl rfl rfl) (po_e hS hdn hJ 4 51 rfl rfl rfl rfl) arrFe (fun _ _ => rfl)
         · exact po_p _ HWF hJ hE rfl rfl rfl rfl rfl rfl rfl (x_assign (po_e hS hdn hJ 5 52 rfl rfl rfl rfl))
       · obtain ⟨b_t10, p_t10, lk_t10, r_t10, d_t10⟩ := hJ.row 6 (by decide) rfl (by decide)
         rw [putO_true _ _ _ _ _ rfl]
         simp only [putA, Nat.zero_add, Nat.reduceAdd]
         rw [hJ.tt 0 rfl, hJ.tt 1 rfl, hJ.tt 2 rfl, hJ.tt 3 rfl, hJ.tt 4 rfl, hJ.tt 5 rfl, p_t10, hJ.tt 8 rfl]
         simp only [Act.put, zA, zB, zC]
         refine po_end ?_
         have n_t2_t10 := zrn r_t2 lk_t10
         have n_t5_t10 := zrn r_t5 lk_t10
         have n_t7_t10 := zrn r_t7 lk_t10
         have n_t8_t10 := zrn r_t8 lk_t10
         have n_t9_t10 := zrn r_t9 lk_t10
         have l_t10 := zrl HGS Bw15 lk_t10
         replace r_t2 := Keep.row hE r_t2 rfl
         replace r_t5 := Keep.row hE r_t5 rfl
         replace r_t7 := Keep.row hE r_t7 rfl
         replace r_t8 := Keep.row hE r_t8 rfl
         replace r_t9 := Keep.row hE r_t9 rfl
         have Bw16 := hE.below Bw15 (HGS.out _ Bw15) rfl
         clear Bw15 hE hJ p_t10 lk_t10 d_t10
         rcases hsg2 with ho | ho
         · have HSH : Hid (0 = q / 128) := Lib.hid ho.symm
           clear ho
           go_wp2_with (first
             | (have hgo := Bw16; clear hgo
                refine wpList_load_cat rfl (.tmp 54) rfl (HC31.out _ Bw16) rfl ?_
                have Bw17 := Bw16
                clear Bw16)
             | (have hgo := Bw17; clear hgo
                refine wpList_shr7 rfl (.tmp 55) (.const (.int .u64 7)) rfl rfl rfl HSH.out HQL.out ?_
                have Bw18 := Bw17
                clear Bw17)
             | (have hgo := Bw18; clear hgo
                go_at_call 80
                refine (refZero_any _).mono ?_
                rintro e w30 ⟨rfl, kk⟩
                replace r_t2 := zrb r_t2 kk
                replace r_t5 := zrb r_t5 kk
                replace r_t7 := zrb r_t7 kk
                replace r_t8 := zrb r_t8 kk
                replace r_t9 := zrb r_t9 kk
                replace r_t10 := zrb r_t10 kk
                have Bw19 := zbt HGS Bw18 kk
                clear Bw18 kk)
             | (have hgo := Bw19; clear hgo
                refine wpList_store_as rfl 63 (.tmp 2) (.tmp 68) rfl 48 (ptF 0 1 1) arrP r_t2 rfl rfl (by omega) (fun j _ => ptF_one _ _ _ j) (fun i hi => putN_whole hi) ?_
                intro w31 q gk
                replace r_t5 := gb_rowIs r_t5 gk (Ne.symm n_t2_t5)
                replace r_t7 := gb_rowIs r_t7 gk (Ne.symm n_t2_t7)
                replace r_t8 := gb_rowIs r_t8 gk (Ne.symm n_t2_t8)
                replace r_t9 := gb_rowIs r_t9 gk (Ne.symm n_t2_t9)
                replace r_t10 := gb_rowIs r_t10 gk (Ne.symm n_t2_t10)
                replace r_t2 := q
                have Bw20 := zbg HGS Bw19 gk l_t2
                clear Bw19 gk q))
           exact ret_cell_as_tmp _ rfl arrP r_t2 rfl rfl (by omega) (fun _ _ => rfl) rfl ⟨rfl, Bw20⟩
         · have HSH : Hid (1 = q / 128) := Lib.hid ho.symm
           clear ho
           go_wp2_with (first
             | (have hgo := Bw16; clear hgo
                refine wpList_load_cat rfl (.tmp 54) rfl (HC31.out _ Bw16) rfl ?_
                have Bw17 := Bw16
                clear Bw16)
             | (have hgo := Bw17; clear hgo
                refine wpList_shr7 rfl (.tmp 55) (.const (.int .u64 7)) rfl rfl rfl HSH.out HQL.out ?_
                have Bw18 := Bw17
                clear Bw17)
             | (have hgo := Bw18; clear hgo
                go_at_call 80
                refine (refZero_any _).mono ?_
                rintro e w30 ⟨rfl, kk⟩
                replace r_t2 := zrb r_t2 kk
                replace r_t5 := zrb r_t5 kk
                replace r_t7 := zrb r_t7 kk
                replace r_t8 := zrb r_t8 kk
                replace r_t9 := zrb r_t9 kk
                replace r_t10 := zrb r_t10 kk
                have Bw19 := zbt HGS Bw18 kk
                clear Bw18 kk)
             | (have hgo := Bw19; clear hgo
                refine wpList_store_as rfl 63 (.tmp 2) (.tmp 68) rfl 48 (ptF 0 1 1) arrP r_t2 rfl rfl (by omega) (fun j _ => ptF_one _ _ _ j) (fun i hi => putN_whole hi) ?_
                intro w31 q gk
                replace r_t5 := gb_rowIs r_t5 gk (Ne.symm n_t2_t5)
                replace r_t7 := gb_rowIs r_t7 gk (Ne.symm n_t2_t7)
                replace r_t8 := gb_rowIs r_t8 gk (Ne.symm n_t2_t8)
                replace r_t9 := gb_rowIs r_t9 gk (Ne.symm n_t2_t9)
                replace r_t10 := gb_rowIs r_t10 gk (Ne.symm n_t2_t10)
                replace r_t2 := q
                have Bw20 := zbg HGS Bw19 gk l_t2
                clear Bw19 gk q))
           exact ret_cell_as_tmp _ rfl arrP r_t2 rfl rfl (by omega) (fun _ _ => rfl) rfl ⟨rfl, Bw20⟩
     | some x =>
       have HRT := Lib.hid fun w => refRoot_some (decS Y) x w (decS_lt Y) hx
       unfold decS at HRT
       have Hx : Hid (x < p25) := Lib.hid (rootL_some prime_p25 t25_eq (decS_lt Y) hx).2.2
       rw [← HYv.out] at hx
       rcases hsg2 with ho | ho
       · by_cases hx0 : x = 0
         · skip
           have HX0 := Lib.hid hx0
           have HSH : Hid (0 = q / 128) := Lib.hid ho.symm
           obtain rfl := H5.out x hx (HSG.out.trans ho)
           clear H3 H4 H5 H7 HSG hx ho hx0
           go_wp2
           have Bw15 := Bw14.drew
           replace r_t2 := World.rowIs.drew r_t2
           replace r_t5 := World.rowIs.drew r_t5
           replace r_t7 := World.rowIs.drew r_t7
           replace r_t8 := World.rowIs.drew r_t8
           replace r_t9 := World.rowIs.drew r_t9
           clear Bw14
           refine zpo [] (.rd 0 (.rd 1 .done)) #[true, true, false, false, false, false, false, false, false, false, false] [2, 3, 4, 5, 6, 7, 8, 9, 10] [some 48, some 49, some 50, some 45, some 51, some 52, some 10, none, some 11] [[], [0], [1], [2], [3], [3], [], [0, 1, 2, 3, 4, 6], [0, 1, 2, 3, 4, 5, 6, 7]] [(0, []), (1, []), (2, [1]), (3, [0, 2, 2]), (4, [3, 3]), (5, [4]), (6, [5]), (7, [5]), (8, []), (9, [8, 6, 4, 0, 1, 2, 3, 4, 5, 6, 8]), (10, [7, 9, 0, 1, 2, 3, 4, 5, 6, 7, 8, 9])] 3 ?_
           refine zld (feF (subP p25 (mulP Y Y) 1)) arrFe r_t8 rfl (fun i hi => by rw [Nat.zero_add]) rfl rfl rfl rfl rfl (by omega) ?_
           refine zld (feF (addP (mulP dP (mulP Y Y)) 1)) arrFe r_t9 rfl (fun i hi => by rw [Nat.zero_add]) rfl rfl rfl rfl rfl (by omega) ?_
           simp only [Act.put, zA, zB, zC]
           refine lintz_leaf ?_
           refine po_start [.val (.agg (arrOf 16 (feF (invP (addP (mulP dP (mulP Y Y)) 1))))), .val (.agg (arrOf 16 (feF (mulP (subP p25 (mulP Y Y) 1) (invP (addP (mulP dP (mulP Y Y)) 1)))))), .val (.tuple #[.agg (arrOf 16 (feF x)), .int .i64 0]), .val (.tuple #[.agg (arrOf 16 (feF x)), .int .i64 0]), .val (.agg (arrOf 16 (feF x))), .val (.int .i64 0), .row 61 16 (u64f fun _ => 0) 7 (feF x), .nil, .val (.int .i64 0)] [] (fun i hi => absurd hi (Nat.not_lt_zero _)) (fun HWF m gz wa p az hp hm hmp hcl hdn hE hJ hS hO => ?_) (fun gz wa hE hJ => ?_)
           · rcases (show p = 0 ∨ p = 1 ∨ p = 2 ∨ p = 3 ∨ p = 4 ∨ p = 5 ∨ p = 6 ∨ p = 7 ∨ p = 8 by have h9 : p < 9 := hp; omega) with rfl | rfl | rfl | rfl | rfl | rfl | rfl | rfl | rfl
             · have e47 : az.eval (.tmp 47) = .agg (arrOf 16 (feF (addP (mulP dP (mulP Y Y)) 1))) := hO 47 rfl
               exact po_k HWF hJ hE (refInv5_any (addP (mulP dP (mulP Y Y)) 1) _ (addP_lt _ _)) rfl rfl rfl rfl rfl rfl (ar1 e47)
             · have e46 : az.eval (.tmp 46) = .agg (arrOf 16 (feF (subP p25 (mulP Y Y) 1))) := hO 46 rfl
               exact po_k HWF hJ hE (refMul5_any (subP p25 (mulP Y Y) 1) (invP (addP (mulP dP (mulP Y Y)) 1)) _ (subP_lt _ _) (invP_lt _)) rfl rfl rfl rfl rfl rfl (ar2 e46 (po_e hS hdn hJ 0 48 rfl rfl rfl rfl))
             · exact po_k HWF hJ hE (HRT.out _) rfl rfl rfl rfl rfl rfl (ar1 (po_e hS hdn hJ 1 49 rfl rfl rfl rfl))
             · exact po_p _ HWF hJ hE rfl rfl rfl rfl rfl rfl rfl (x_move (po_e hS hdn hJ 2 50 rfl rfl rfl rfl))
             · have e45 := po_e hS hdn hJ 3 45 rfl rfl rfl rfl
               exact po_p (Op.extract (Operand.tmp 45) 0) HWF hJ hE rfl rfl rfl rfl rfl rfl rfl (by first | (simp only [execOp, mkOp, eval_const, e45]; done) | (simp only [execOp, mkOp, eval_const, e45]; go_simp))
             · have e45 := po_e hS hdn hJ 3 45 rfl rfl rfl rfl
               exact po_p (Op.extract (Operand.tmp 45) 1) HWF hJ hE rfl rfl rfl rfl rfl rfl rfl (by first | (simp only [execOp, mkOp, eval_const, e45]; done) | (simp only [execOp, mkOp, eval_const, e45]; go_simp))
             · exact po_alloc 10 _ 61 16 (u64f fun _ => 0) _ _ HWF hJ rfl (po_notyet hcl hmp (by rw [hm]; exact hp) (by decide)) hE rfl rfl rfl rfl rfl rfl zeroFe
             · exact po_sr 6 hm hp hmp hdn hJ hE rfl rfl rfl rfl rfl rfl rfl rfl (po_e0 hS hdn 6 10 rfl rfl rfl) (po_e hS hdn hJ 4 51 rfl rfl rfl rfl) arrFe (fun _ _ => rfl)
             · exact po_p _ HWF hJ hE rfl rfl rfl rfl rfl rfl rfl (x_assign (po_e hS hdn hJ 5 52 rfl rfl rfl rfl))
           · obtain ⟨b_t10, p_t10, lk_t10, r_t10, d_t10⟩ := hJ.row 6 (by decide) rfl (by decide)
             rw [putO_true _ _ _ _ _ rfl]
             simp only [putA, Nat.zero_add, Nat.reduceAdd]
             rw [hJ.tt 0 rfl, hJ.tt 1 rfl, hJ.tt 2 rfl, hJ.tt 3 rfl, hJ.tt 4 rfl, hJ.tt 5 rfl, p_t10, hJ.tt 8 rfl]
             simp only [Act.put, zA, zB, zC]
             refine po_end ?_
             have n_t2_t10 := zrn r_t2 lk_t10
             have n_t5_t10 := zrn r_t5 lk_t10
             have n_t7_t10 := zrn r_t7 lk_t10
             have n_t8_t10 := zrn r_t8 lk_t10
             have n_t9_t10 := zrn r_t9 lk_t10
             have l_t10 := zrl HGS Bw15 lk_t10
             replace r_t2 := Keep.row hE r_t2 rfl
             replace r_t5 := Keep.row hE r_t5 rfl
             replace r_t7 := Keep.row hE r_t7 rfl
             replace r_t8 := Keep.row hE r_t8 rfl
             replace r_t9 := Keep.row hE r_t9 rfl
             have Bw16 := hE.below Bw15 (HGS.out _ Bw15) rfl
             clear Bw15 hE hJ p_t10 lk_t10 d_t10
             go_wp2_with (first
               | (have hgo := Bw16; clear hgo
                  refine wpList_load_cat rfl (.tmp 54) rfl (HC31.out _ Bw16) rfl ?_
                  have Bw17 := Bw16
                  clear Bw16)
               | (have hgo := Bw17; clear hgo
                  refine wpList_shr7 rfl (.tmp 55) (.const (.int .u64 7)) rfl rfl rfl HSH.out HQL.out ?_
                  have Bw18 := Bw17
                  clear Bw17)
               | (have hgo := Bw18; clear hgo
                  refine wpList_load_given rfl 61 (.tmp 10) rfl 16 arrFe r_t10 rfl (by omega) ?_
                  simp only [Nat.zero_add]
                  have Bw19 := Bw18
                  clear Bw18)
               | (have hgo := Bw19; clear hgo
                  refine wpList_value_given rfl (.agg (arrOf 16 (feF 0))) (by rw [exec_mkOp]; exact exec_zeroFe _ _) ?_
                  have Bw20 := Bw19
                  clear Bw19)
               | (have hgo := Bw20; clear hgo
                  refine wpList_value_given rfl (.bool true) (by rw [exec_mkOp]; exact exec_Fe_eq2 _ _ _ _ Hx.out p25_pos (decide_eq_true HX0.out) rfl rfl) ?_
                  have Bw21 := Bw20
                  clear Bw20))
             have Bw22 := Bw21.drew
             replace r_t2 := World.rowIs.drew r_t2
             replace r_t5 := World.rowIs.drew r_t5
             replace r_t7 := World.rowIs.drew r_t7
             replace r_t8 := World.rowIs.drew r_t8
             replace r_t9 := World.rowIs.drew r_t9
             replace r_t10 := World.rowIs.drew r_t10
             clear Bw21
             refine zpo [b_t2] (.rd 0 (.rd 1 .done)) #[true, true, false, false, false, false] [2, 3, 4, 5] [some 74, some 75, none, some 3] [[], [0], [0, 1], [0, 1, 2]] [(0, []), (1, []), (2, []), (3, [0, 1, 2]), (4, [3, 2, 0, 1, 2, 3]), (5, [4, 0, 1, 2, 3, 4])] 3 ?_
             refine zld (feF x) arrFe r_t10 (cont1 (Ne.symm n_t2_t10)) (fun i hi => by rw [Nat.zero_add]) rfl rfl rfl rfl rfl (by omega) ?_
             refine zld (feF Y) arrFe r_t5 (cont1 (Ne.symm n_t2_t5)) (fun i hi => by rw [Nat.zero_add]) rfl rfl rfl rfl rfl (by omega) ?_
             simp only [Act.put, zA, zB, zC]
             refine lintz_leaf ?_
             refine po_start [.val (.agg (arrOf 16 (feF 1))), .val (.agg (arrOf 48 (ptF x Y 1))), .nil, .val ((.int .i64 0))] [⟨b_t2, 63, 48, (u64f fun _ => 0), 2, (ptF x Y 1)⟩] (fun i hi => by obtain rfl : i = 0 := by { have h9 : i < 1 := hi; omega }; exact r_t2) (fun HWF m gz wa p az hp hm hmp hcl hdn hE hJ hS hO => ?_) (fun gz wa hE hJ => ?_)
             · rcases (show p = 0 ∨ p = 1 ∨ p = 2 ∨ p = 3 by have h9 : p < 4 := hp; omega) with rfl | rfl | rfl | rfl
               · exact po_k HWF hJ hE (refSmall_any 1 _ (by decide)) rfl rfl rfl rfl rfl rfl (ar1 rfl)
               · have e72 : az.eval (.tmp 72) = .agg (arrOf 16 (feF x)) := hO 72 rfl
                 have e73 : az.eval (.tmp 73) = .agg (arrOf 16 (feF Y)) := hO 73 rfl
                 have e74 := po_e hS hdn hJ 0 74 rfl rfl rfl rfl
                 exact po_p _ HWF hJ hE rfl rfl rfl rfl rfl rfl rfl (exec_build_as _ _ _ (by simp only [List.map_toArray, List.map_cons, List.map_nil, e72, e73, e74]; exact builtP x Y 1))
               · exact po_storeOld 0 (.tmp 2) (.tmp 75) 63 b_t2 48 _ (by rw [hm]; exact hp) hmp hJ rfl (show 0 < 1 by decide) rfl rfl rfl rfl rfl (World.rowIs.lt r_t2) (by simp) (by kernel_rfl) po_ne1 hE rfl rfl rfl rfl rfl (hO 2 rfl) (po_e hS hdn hJ 1 75 rfl rfl rfl rfl) arrP (fun j _ => ptF_one _ _ _ j)
               · exact po_p _ HWF hJ hE rfl rfl rfl rfl rfl rfl rfl (x_assign rfl)
             · rw [putO_true _ _ _ _ _ rfl]
               simp only [putA, Nat.zero_add, Nat.reduceAdd]
               rw [hJ.tt 0 rfl, hJ.tt 1 rfl, hJ.tt 3 rfl]
               simp only [Act.put, zA, zB, zC]
               refine po_end ?_
               replace r_t2 : wa.rowIs b_t2 63 48 (ptF x Y 1) := hJ.old 0 (show 0 < 1 by decide) (show 2 < 4 by decide)
               replace r_t5 := Keep.row hE r_t5 (cont1 (Ne.symm n_t2_t5))
               replace r_t7 := Keep.row hE r_t7 (cont1 (Ne.symm n_t2_t7))
               replace r_t8 := Keep.row hE r_t8 (cont1 (Ne.symm n_t2_t8))
               replace r_t9 := Keep.row hE r_t9 (cont1 (Ne.symm n_t2_t9))
               replace r_t10 := Keep.row hE r_t10 (cont1 (Ne.symm n_t2_t10))
               have Bw23 := hE.below Bw22 (HGS.out _ Bw22) (keep_all1 l_t2)
               clear Bw22 hE hJ 
               go_wp2
               exact ret_cell_as_tmp _ rfl arrP r_t2 rfl rfl (by omega) (fun _ _ => rfl) rfl ⟨by rw [HYv.out]; rfl, Bw23⟩
         · skip
           have HX0 := Lib.hid hx0
           have HSH : Hid (0 = q / 128) := Lib.hid ho.symm
           obtain rfl := H5.out x hx (HSG.out.trans ho)
           clear H3 H4 H5 H7 HSG hx ho hx0
           go_wp2
           have Bw15 := Bw14.drew
           replace r_t2 := World.rowIs.drew r_t2
           replace r_t5 := World.rowIs.drew r_t5
           replace r_t7 := World.rowIs.drew r_t7
           replace r_t8 := World.rowIs.drew r_t8
           replace r_t9 := World.rowIs.drew r_t9
           clear Bw14
           refine zpo [] (.rd 0 (.rd 1 .done)) #[true, true, false, false, false, false, false, false, false, false, false] [2, 3, 4, 5, 6, 7, 8, 9, 10] [some 48, some 49, some 50, some 45, some 51, some 52, some 10, none, some 11] [[], [0], [1], [2], [3], [3], [], [0, 1, 2, 3, 4, 6], [0, 1, 2, 3, 4, 5, 6, 7]] [(0, []), (1, []), (2, [1]), (3, [0, 2, 2]), (4, [3, 3]), (5, [4]), (6, [5]), (7, [5]), (8, []), (9, [8, 6, 4, 0, 1, 2, 3, 4, 5, 6, 8]), (10, [7, 9, 0, 1, 2, 3, 4, 5, 6, 7, 8, 9])] 3 ?_
           refine zld (feF (subP p25 (mulP Y Y) 1)) arrFe r_t8 rfl (fun i hi => by rw [Nat.zero_add]) rfl rfl rfl rfl rfl (by omega) ?_
           refine zld (feF (addP (mulP dP (mulP Y Y)) 1)) arrFe r_t9 rfl (fun i hi => by rw [Nat.zero_add]) rfl rfl rfl rfl rfl (by omega) ?_
           simp only [Act.put, zA, zB, zC]
           refine lintz_leaf ?_
           refine po_start [.val (.agg (arrOf 16 (feF (invP (addP (mulP dP (mulP Y Y)) 1))))), .val (.agg (arrOf 16 (feF (mulP (subP p25 (mulP Y Y) 1) (invP (addP (mulP dP (mulP Y Y)) 1)))))), .val (.tuple #[.agg (arrOf 16 (feF x)), .int .i64 0]), .val (.tuple #[.agg (arrOf 16 (feF x)), .int .i64 0]), .val (.agg (arrOf 16 (feF x))), .val (.int .i64 0), .row 61 16 (u64f fun _ => 0) 7 (feF x), .nil, .val (.int .i64 0)] [] (fun i hi => absurd hi (Nat.not_lt_zero _)) (fun HWF m gz wa p az hp hm hmp hcl hdn hE hJ hS hO => ?_) (fun gz wa hE hJ => ?_)
           · rcases (show p = 0 ∨ p = 1 ∨ p = 2 ∨ p = 3 ∨ p = 4 ∨ p = 5 ∨ p = 6 ∨ p = 7 ∨ p = 8 by have h9 : p < 9 := hp; omega) with rfl | rfl | rfl | rfl | rfl | rfl | rfl | rfl | rfl
             · have e47 : az.eval (.tmp 47) = .agg (arrOf 16 (feF (addP (mulP dP (mulP Y Y)) 1))) := hO 47 rfl
               exact po_k HWF hJ hE (refInv5_any (addP (mulP dP (mulP Y Y)) 1) _ (addP_lt _ _)) rfl rfl rfl rfl rfl rfl (ar1 e47)
             · have e46 : az.eval (.tmp 46) = .agg (arrOf 16 (feF (subP p25 (mulP Y Y) 1))) := hO 46 rfl
               exact po_k HWF hJ hE (refMul5_any (subP p25 (mulP Y Y) 1) (invP (addP (mulP dP (mulP Y Y)) 1)) _ (subP_lt _ _) (invP_lt _)) rfl rfl rfl rfl rfl rfl (ar2 e46 (po_e hS hdn hJ 0 48 rfl rfl rfl rfl))
             · exact po_k HWF hJ hE (HRT.out _) rfl rfl rfl rfl rfl rfl (ar1 (po_e hS hdn hJ 1 49 rfl rfl rfl rfl))
             · exact po_p _ HWF hJ hE rfl rfl rfl rfl rfl rfl rfl (x_move (po_e hS hdn hJ 2 50 rfl rfl rfl rfl))
             · have e45 := po_e hS hdn hJ 3 45 rfl rfl rfl rfl
               exact po_p (Op.extract (Operand.tmp 45) 0) HWF hJ hE rfl rfl rfl rfl rfl rfl rfl (by first | (simp only [execOp, mkOp, eval_const, e45]; done) | (simp only [execOp, mkOp, eval_const, e45]; go_simp))
             · have e45 := po_e hS hdn hJ 3 45 rfl rfl rfl rfl
               exact po_p (Op.extract (Operand.tmp 45) 1) HWF hJ hE rfl rfl rfl rfl rfl rfl rfl (by first | (simp only [execOp, mkOp, eval_const, e45]; done) | (simp only [execOp, mkOp, eval_const, e45]; go_simp))
             · exact po_alloc 10 _ 61 16 (u64f fun _ => 0) _ _ HWF hJ rfl (po_notyet hcl hmp (by rw [hm]; exact hp) (by decide)) hE rfl rfl rfl rfl rfl rfl zeroFe
             · exact po_sr 6 hm hp hmp hdn hJ hE rfl rfl rfl rfl rfl rfl rfl rfl (po_e0 hS hdn 6 10 rfl rfl rfl) (po_e hS hdn hJ 4 51 rfl rfl rfl rfl) arrFe (fun _ _ => rfl)
             · exact po_p _ HWF hJ hE rfl rfl rfl rfl rfl rfl rfl (x_assign (po_e hS hdn hJ 5 52 rfl rfl rfl rfl))
           · obtain ⟨b_t10, p_t10, lk_t10, r_t10, d_t10⟩ := hJ.row 6 (by decide) rfl (by decide)
             rw [putO_true _ _ _ _ _ rfl]
             simp only [putA, Nat.zero_add, Nat.reduceAdd]
             rw [hJ.tt 0 rfl, hJ.tt 1 rfl, hJ.tt 2 rfl, hJ.tt 3 rfl, hJ.tt 4 rfl, hJ.tt 5 rfl, p_t10, hJ.tt 8 rfl]
             simp only [Act.put, zA, zB, zC]
             refine po_end ?_
             have n_t2_t10 := zrn r_t2 lk_t10
             have n_t5_t10 := zrn r_t5 lk_t10
             have n_t7_t10 := zrn r_t7 lk_t10
             have n_t8_t10 := zrn r_t8 lk_t10
             have n_t9_t10 := zrn r_t9 lk_t10
             have l_t10 := zrl HGS Bw15 lk_t10
             replace r_t2 := Keep.row hE r_t2 rfl
             replace r_t5 := Keep.row hE r_t5 rfl
             replace r_t7 := Keep.row hE r_t7 rfl
             replace r_t8 := Keep.row hE r_t8 rfl
             replace r_t9 := Keep.row hE r_t9 rfl
             have Bw16 := hE.below Bw15 (HGS.out _ Bw15) rfl
             clear Bw15 hE hJ p_t10 lk_t10 d_t10
             go_wp2_with (first
               | (have hgo := Bw16; clear hgo
                  refine wpList_load_cat rfl (.tmp 54) rfl (HC31.out _ Bw16) rfl ?_
                  have Bw17 := Bw16
                  clear Bw16)
               | (have hgo := Bw17; clear hgo
                  refine wpList_shr7 rfl (.tmp 55) (.const (.int .u64 7)) rfl rfl rfl HSH.out HQL.out ?_
                  have Bw18 := Bw17
                  clear Bw17)
               | (have hgo := Bw18; clear hgo
                  refine wpList_load_given rfl 61 (.tmp 10) rfl 16 arrFe r_t10 rfl (by omega) ?_
                  simp only [Nat.zero_add]
                  have Bw19 := Bw18
                  clear Bw18)
               | (have hgo := Bw19; clear hgo
                  refine wpList_value_given rfl (.agg (arrOf 16 (feF 0))) (by rw [exec_mkOp]; exact exec_zeroFe _ _) ?_
                  have Bw20 := Bw19
                  clear Bw19)
               | (have hgo := Bw20; clear hgo
                  refine wpList_value_given rfl (.bool false) (by rw [exec_mkOp]; exact exec_Fe_eq2 _ _ _ _ Hx.out p25_pos (decide_eq_false HX0.out) rfl rfl) ?_
                  have Bw21 := Bw20
                  clear Bw20))
             have Bw22 := Bw21.drew
             replace r_t2 := World.rowIs.drew r_t2
             replace r_t5 := World.rowIs.drew r_t5
             replace r_t7 := World.rowIs.drew r_t7
             replace r_t8 := World.rowIs.drew r_t8
             replace r_t9 := World.rowIs.drew r_t9
             replace r_t10 := World.rowIs.drew r_t10
             clear Bw21
             refine zpo [b_t2] (.rd 0 (.rd 1 .done)) #[true, true, false, false, false, false] [2, 3, 4, 5] [some 74, some 75, none, some 3] [[], [0], [0, 1], [0, 1, 2]] [(0, []), (1, []), (2, []), (3, [0, 1, 2]), (4, [3, 2, 0, 1, 2, 3]), (5, [4, 0, 1, 2, 3, 4])] 3 ?_
             refine zld (feF x) arrFe r_t10 (cont1 (Ne.symm n_t2_t10)) (fun i hi => by rw [Nat.zero_add]) rfl rfl rfl rfl rfl (by omega) ?_
             refine zld (feF Y) arrFe r_t5 (cont1 (Ne.symm n_t2_t5)) (fun i hi => by rw [Nat.zero_add]) rfl rfl rfl rfl rfl (by omega) ?_
             simp only [Act.put, zA, zB, zC]
             refine lintz_leaf ?_
             refine po_start [.val (.agg (arrOf 16 (feF 1))), .val (.agg (arrOf 48 (ptF x Y 1))), .nil, .val ((.int .i64 0))] [⟨b_t2, 63, 48, (u64f fun _ => 0), 2, (ptF x Y 1)⟩] (fun i hi => by obtain rfl : i = 0 := by { have h9 : i < 1 := hi; omega }; exact r_t2) (fun HWF m gz wa p az hp hm hmp hcl hdn hE hJ hS hO => ?_) (fun gz wa hE hJ => ?_)
             · rcases (show p = 0 ∨ p = 1 ∨ p = 2 ∨ p = 3 by have h9 : p < 4 := hp; omega) with rfl | rfl | rfl | rfl
               · exact po_k HWF hJ hE (refSmall_any 1 _ (by decide)) rfl rfl rfl rfl rfl rfl (ar1 rfl)
               · have e72 : az.eval (.tmp 72) = .agg (arrOf 16 (feF x)) := hO 72 rfl
                 have e73 : az.eval (.tmp 73) = .agg (arrOf 16 (feF Y)) := hO 73 rfl
                 have e74 := po_e hS hdn hJ 0 74 rfl rfl rfl rfl
                 exact po_p _ HWF hJ hE rfl rfl rfl rfl rfl rfl rfl (exec_build_as _ _ _ (by simp only [List.map_toArray, List.map_cons, List.map_nil, e72, e73, e74]; exact builtP x Y 1))
               · exact po_storeOld 0 (.tmp 2) (.tmp 75) 63 b_t2 48 _ (by rw [hm]; exact hp) hmp hJ rfl (show 0 < 1 by decide) rfl rfl rfl rfl rfl (World.rowIs.lt r_t2) (by simp) (by kernel_rfl) po_ne1 hE rfl rfl rfl rfl rfl (hO 2 rfl) (po_e hS hdn hJ 1 75 rfl rfl rfl rfl) arrP (fun j _ => ptF_one _ _ _ j)
               · exact po_p _ HWF hJ hE rfl rfl rfl rfl rfl rfl rfl (x_assign rfl)
             · rw [putO_true _ _ _ _ _ rfl]
               simp only [putA, Nat.zero_add, Nat.reduceAdd]
               rw [hJ.tt 0 rfl, hJ.tt 1 rfl, hJ.tt 3 rfl]
               simp only [Act.put, zA, zB, zC]
               refine po_end ?_
               replace r_t2 : wa.rowIs b_t2 63 48 (ptF x Y 1) := hJ.old 0 (show 0 < 1 by decide) (show 2 < 4 by decide)
               replace r_t5 := Keep.row hE r_t5 (cont1 (Ne.symm n_t2_t5))
               replace r_t7 := Keep.row hE r_t7 (cont1 (Ne.symm n_t2_t7))
               replace r_t8 := Keep.row hE r_t8 (cont1 (Ne.symm n_t2_t8))
               replace r_t9 := Keep.row hE r_t9 (cont1 (Ne.symm n_t2_t9))
               replace r_t10 := Keep.row hE r_t10 (cont1 (Ne.symm n_t2_t10))
               have Bw23 := hE.below Bw22 (HGS.out _ Bw22) (keep_all1 l_t2)
               clear Bw22 hE hJ 
               go_wp2
               exact ret_cell_as_tmp _ rfl arrP r_t2 rfl rfl (by omega) (fun _ _ => rfl) rfl ⟨by rw [HYv.out]; rfl, Bw23⟩
       · by_cases hx0 : x = 0
         · skip
           have HX0 := Lib.hid hx0
           have HSH : Hid (1 = q / 128) := Lib.hid ho.symm
           obtain rfl := H4.out x hx (HSG.out.trans ho) hx0
           clear H3 H4 H5 H7 HSG hx ho hx0
           go_wp2
           have Bw15 := Bw14.drew
           replace r_t2 := World.rowIs.drew r_t2
           replace r_t5 := World.rowIs.drew r_t5
           replace r_t7 := World.rowIs.drew r_t7
           replace r_t8 := World.rowIs.drew r_t8
           replace r_t9 := World.rowIs.drew r_t9
           clear Bw14
           refine zpo [] (.rd 0 (.rd 1 .done)) #[true, true, false, false, false, false, false, false, false, false, false] [2, 3, 4, 5, 6, 7, 8, 9, 10] [some 48, some 49, some 50, some 45, some 51, some 52, some 10, none, some 11] [[], [0], [1], [2], [3], [3], [], [0, 1, 2, 3, 4, 6], [0, 1, 2, 3, 4, 5, 6, 7]] [(0, []), (1, []), (2, [1]), (3, [0, 2, 2]), (4, [3, 3]), (5, [4]), (6, [5]), (7, [5]), (8, []), (9, [8, 6, 4, 0, 1, 2, 3, 4, 5, 6, 8]), (10, [7, 9, 0, 1, 2, 3, 4, 5, 6, 7, 8, 9])] 3 ?_
           refine zld (feF (subP p25 (mulP Y Y) 1)) arrFe r_t8 rfl (fun i hi => by rw [Nat.zero_add]) rfl rfl rfl rfl rfl (by omega) ?_
           refine zld (feF (addP (mulP dP (mulP Y Y)) 1)) arrFe r_t9 rfl (fun i hi => by rw [Nat.zero_add]) rfl rfl rfl rfl rfl (by omega) ?_
           simp only [Act.put, zA, zB, zC]
           refine lintz_leaf ?_
           refine po_start [.val (.agg (arrOf 16 (feF (invP (addP (mulP dP (mulP Y Y)) 1))))), .val (.agg (arrOf 16 (feF (mulP (subP p25 (mulP Y Y) 1) (invP (addP (mulP dP (mulP Y Y)) 1)))))), .val (.tuple #[.agg (arrOf 16 (feF x)), .int .i64 0]), .val (.tuple #[.agg (arrOf 16 (feF x)), .int .i64 0]), .val (.agg (arrOf 16 (feF x))), .val (.int .i64 0), .row 61 16 (u64f fun _ => 0) 7 (feF x), .nil, .val (.int .i64 0)] [] (fun i hi => absurd hi (Nat.not_lt_zero _)) (fun HWF m gz wa p az hp hm hmp hcl hdn hE hJ hS hO => ?_) (fun gz wa hE hJ => ?_)
           · rcases (show p = 0 ∨ p = 1 ∨ p = 2 ∨ p = 3 ∨ p = 4 ∨ p = 5 ∨ p = 6 ∨ p = 7 ∨ p = 8 by have h9 : p < 9 := hp; omega) with rfl | rfl | rfl | rfl | rfl | rfl | rfl | rfl | rfl
             · have e47 : az.eval (.tmp 47) = .agg (arrOf 16 (feF (addP (mulP dP (mulP Y Y)) 1))) := hO 47 rfl
               exact po_k HWF hJ hE (refInv5_any (addP (mulP dP (mulP Y Y)) 1) _ (addP_lt _ _)) rfl rfl rfl rfl rfl rfl (ar1 e47)
             · have e46 : az.eval (.tmp 46) = .agg (arrOf 16 (feF (subP p25 (mulP Y Y) 1))) := hO 46 rfl
               exact po_k HWF hJ hE (refMul5_any (subP p25 (mulP Y Y) 1) (invP (addP (mulP dP (mulP Y Y)) 1)) _ (subP_lt _ _) (invP_lt _)) rfl rfl rfl rfl rfl rfl (ar2 e46 (po_e hS hdn hJ 0 48 rfl rfl rfl rfl))
             · exact po_k HWF hJ hE (HRT.out _) rfl rfl rfl rfl rfl rfl (ar1 (po_e hS hdn hJ 1 49 rfl rfl rfl rfl))
             · exact po_p _ HWF hJ hE rfl rfl rfl rfl rfl rfl rfl (x_move (po_e hS hdn hJ 2 50 rfl rfl rfl rfl))
             · have e45 := po_e hS hdn hJ 3 45 rfl rfl rfl rfl
               exact po_p (Op.extract (Operand.tmp 45) 0) HWF hJ hE rfl rfl rfl rfl rfl rfl rfl (by first | (simp only [execOp, mkOp, eval_const, e45]; done) | (simp only [execOp, mkOp, eval_const, e45]; go_simp))
             · have e45 := po_e hS hdn hJ 3 45 rfl rfl rfl rfl
               exact po_p (Op.extract (Operand.tmp 45) 1) HWF hJ hE rfl rfl rfl rfl rfl rfl rfl (by first | (simp only [execOp, mkOp, eval_const, e45]; done) | (simp only [execOp, mkOp, eval_const, e45]; go_simp))
             · exact po_alloc 10 _ 61 16 (u64f fun _ => 0) _ _ HWF hJ rfl (po_notyet hcl hmp (by rw [hm]; exact hp) (by decide)) hE rfl rfl rfl rfl rfl rfl zeroFe
             · exact po_sr 6 hm hp hmp hdn hJ hE rfl rfl rfl rfl rfl rfl rfl rfl (po_e0 hS hdn 6 10 rfl rfl rfl) (po_e hS hdn hJ 4 51 rfl rfl rfl rfl) arrFe (fun _ _ => rfl)
             · exact po_p _ HWF hJ hE rfl rfl rfl rfl rfl rfl rfl (x_assign (po_e hS hdn hJ 5 52 rfl rfl rfl rfl))
           · obtain ⟨b_t10, p_t10, lk_t10, r_t10, d_t10⟩ := hJ.row 6 (by decide) rfl (by decide)
             rw [putO_true _ _ _ _ _ rfl]
             simp only [putA, Nat.zero_add, Nat.reduceAdd]
             rw [hJ.tt 0 rfl, hJ.tt 1 rfl, hJ.tt 2 rfl, hJ.tt 3 rfl, hJ.tt 4 rfl, hJ.tt 5 rfl, p_t10, hJ.tt 8 rfl]
             simp only [Act.put, zA, zB, zC]
             refine po_end ?_
             have n_t2_t10 := zrn r_t2 lk_t10
             have n_t5_t10 := zrn r_t5 lk_t10
             have n_t7_t10 := zrn r_t7 lk_t10
             have n_t8_t10 := zrn r_t8 lk_t10
             have n_t9_t10 := zrn r_t9 lk_t10
             have l_t10 := zrl HGS Bw15 lk_t10
             replace r_t2 := Keep.row hE r_t2 rfl
             replace r_t5 := Keep.row hE r_t5 rfl
             replace r_t7 := Keep.row hE r_t7 rfl
             replace r_t8 := Keep.row hE r_t8 rfl
             replace r_t9 := Keep.row hE r_t9 rfl
             have Bw16 := hE.below Bw15 (HGS.out _ Bw15) rfl
             clear Bw15 hE hJ p_t10 lk_t10 d_t10
             go_wp2_with (first
               | (have hgo := Bw16; clear hgo
                  refine wpList_load_cat rfl (.tmp 54) rfl (HC31.out _ Bw16) rfl ?_
                  have Bw17 := Bw16
                  clear Bw16)
               | (have hgo := Bw17; clear hgo
                  refine wpList_shr7 rfl (.tmp 55) (.const (.int .u64 7)) rfl rfl rfl HSH.out HQL.out ?_
                  have Bw18 := Bw17
                  clear Bw17)
               | (have hgo := Bw18; clear hgo
                  refine wpList_load_given rfl 61 (.tmp 10) rfl 16 arrFe r_t10 rfl (by omega) ?_
                  simp only [Nat.zero_add]
                  have Bw19 := Bw18
                  clear Bw18)
               | (have hgo := Bw19; clear hgo
                  refine wpList_value_given rfl (.agg (arrOf 16 (feF 0))) (by rw [exec_mkOp]; exact exec_zeroFe _ _) ?_
                  have Bw20 := Bw19
                  clear Bw19)
               | (have hgo := Bw20; clear hgo
                  refine wpList_value_given rfl (.bool true) (by rw [exec_mkOp]; exact exec_Fe_eq2 _ _ _ _ Hx.out p25_pos (decide_eq_true HX0.out) rfl rfl) ?_
                  have Bw21 := Bw20
                  clear Bw20)
               | (have hgo := Bw21; clear hgo
                  go_at_call 80
                  refine (refZero_any _).mono ?_
                  rintro e w40 ⟨rfl, kk⟩
                  replace r_t2 := zrb r_t2 kk
                  replace r_t5 := zrb r_t5 kk
                  replace r_t7 := zrb r_t7 kk
                  replace r_t8 := zrb r_t8 kk
                  replace r_t9 := zrb r_t9 kk
                  replace r_t10 := zrb r_t10 kk
                  have Bw22 := zbt HGS Bw21 kk
                  clear Bw21 kk)
               | (have hgo := Bw22; clear hgo
                  refine wpList_store_as rfl 63 (.tmp 2) (.tmp 68) rfl 48 (ptF 0 1 1) arrP r_t2 rfl rfl (by omega) (fun j _ => ptF_one _ _ _ j) (fun i hi => putN_whole hi) ?_
                  intro w41 q gk
                  replace r_t5 := gb_rowIs r_t5 gk (Ne.symm n_t2_t5)
                  replace r_t7 := gb_rowIs r_t7 gk (Ne.symm n_t2_t7)
                  replace r_t8 := gb_rowIs r_t8 gk (Ne.symm n_t2_t8)
                  replace r_t9 := gb_rowIs r_t9 gk (Ne.symm n_t2_t9)
                  replace r_t10 := gb_rowIs r_t10 gk (Ne.symm n_t2_t10)
                  replace r_t2 := q
                  have Bw23 := zbg HGS Bw22 gk l_t2
                  clear Bw22 gk q))
             exact ret_cell_as_tmp _ rfl arrP r_t2 rfl rfl (by omega) (fun _ _ => rfl) rfl ⟨rfl, Bw23⟩
         · skip
           have HX0 := Lib.hid hx0
           have HSH : Hid (1 = q / 128) := Lib.hid ho.symm
           obtain rfl := H7.out x hx (HSG.out.trans ho) hx0
           clear H3 H4 H5 H7 HSG hx ho hx0
           go_wp2
           have Bw15 := Bw14.drew
           replace r_t2 := World.rowIs.drew r_t2
           replace r_t5 := World.rowIs.drew r_t5
           replace r_t7 := World.rowIs.drew r_t7
           replace r_t8 := World.rowIs.drew r_t8
           replace r_t9 := World.rowIs.drew r_t9
           clear Bw14
           refine zpo [] (.rd 0 (.rd 1 .done)) #[true, true, false, false, false, false, false, false, false, false, false] [2, 3, 4, 5, 6, 7, 8, 9, 10] [some 48, some 49, some 50, some 45, some 51, some 52, some 10, none, some 11] [[], [0], [1], [2], [3], [3], [], [0, 1, 2, 3, 4, 6], [0, 1, 2, 3, 4, 5, 6, 7]] [(0, []), (1, []), (2, [1]), (3, [0, 2, 2]), (4, [3, 3]), (5, [4]), (6, [5]), (7, [5]), (8, []), (9, [8, 6, 4, 0, 1, 2, 3, 4, 5, 6, 8]), (10, [7, 9, 0, 1, 2, 3, 4, 5, 6, 7, 8, 9])] 3 ?_
           refine zld (feF (subP p25 (mulP Y Y) 1)) arrFe r_t8 rfl (fun i hi => by rw [Nat.zero_add]) rfl rfl rfl rfl rfl (by omega) ?_
           refine zld (feF (addP (mulP dP (mulP Y Y)) 1)) arrFe r_t9 rfl (fun i hi => by rw [Nat.zero_add]) rfl rfl rfl rfl rfl (by omega) ?_
           simp only [Act.put, zA, zB, zC]
           refine lintz_leaf ?_
           refine po_start [.val (.agg (arrOf 16 (feF (invP (addP (mulP dP (mulP Y Y)) 1))))), .val (.agg (arrOf 16 (feF (mulP (subP p25 (mulP Y Y) 1) (invP (addP (mulP dP (mulP Y Y)) 1)))))), .val (.tuple #[.agg (arrOf 16 (feF x)), .int .i64 0]), .val (.tuple #[.agg (arrOf 16 (feF x)), .int .i64 0]), .val (.agg (arrOf 16 (feF x))), .val (.int .i64 0), .row 61 16 (u64f fun _ => 0) 7 (feF x), .nil, .val (.int .i64 0)] [] (fun i hi => absurd hi (Nat.not_lt_zero _)) (fun HWF m gz wa p az hp hm hmp hcl hdn hE hJ hS hO => ?_) (fun gz wa hE hJ => ?_)
           · rcases (show p = 0 ∨ p = 1 ∨ p = 2 ∨ p = 3 ∨ p = 4 ∨ p = 5 ∨ p = 6 ∨ p = 7 ∨ p = 8 by have h9 : p < 9 := hp; omega) with rfl | rfl | rfl | rfl | rfl | rfl | rfl | rfl | rfl
             · have e47 : az.eval (.tmp 47) = .agg (arrOf 16 (feF (addP (mulP dP (mulP Y Y)) 1))) := hO 47 rfl
               exact po_k HWF hJ hE (refInv5_any (addP (mulP dP (mulP Y Y)) 1) _ (addP_lt _ _)) rfl rfl rfl rfl rfl rfl (ar1 e47)
             · have e46 : az.eval (.tmp 46) = .agg (arrOf 16 (feF (subP p25 (mulP Y Y) 1))) := hO 46 rfl
               exact po_k HWF hJ hE (refMul5_any (subP p25 (mulP Y Y) 1) (invP (addP (mulP dP (mulP Y Y)) 1)) _ (subP_lt _ _) (invP_lt _)) rfl rfl rfl rfl rfl rfl (ar2 e46 (po_e hS hdn hJ 0 48 rfl rfl rfl rfl))
             · exact po_k HWF hJ hE (HRT.out _) rfl rfl rfl rfl rfl rfl (ar1 (po_e hS hdn hJ 1 49 rfl rfl rfl rfl))
             · exact po_p _ HWF hJ hE rfl rfl rfl rfl rfl rfl rfl (x_move (po_e hS hdn hJ 2 50 rfl rfl rfl rfl))
             · have e45 := po_e hS hdn hJ 3 45 rfl rfl rfl rfl
               exact po_p (Op.extract (Operand.tmp 45) 0) HWF hJ hE rfl rfl rfl rfl rfl rfl rfl (by first | (simp only [execOp, mkOp, eval_const, e45]; done) | (simp only [execOp, mkOp, eval_const, e45]; go_simp))
             · have e45 := po_e hS hdn hJ 3 45 rfl rfl rfl rfl
               exact po_p (Op.extract (Operand.tmp 45) 1) HWF hJ hE rfl rfl rfl rfl rfl rfl rfl (by first | (simp only [execOp, mkOp, eval_const, e45]; done) | (simp only [execOp, mkOp, eval_const, e45]; go_simp))
             · exact po_alloc 10 _ 61 16 (u64f fun _ => 0) _ _ HWF hJ rfl (po_notyet hcl hmp (by rw [hm]; exact hp) (by decide)) hE rfl rfl rfl rfl rfl rfl zeroFe
             · exact po_sr 6 hm hp hmp hdn hJ hE rfl rfl rfl rfl rfl rfl rfl rfl (po_e0 hS hdn 6 10 rfl rfl rfl) (po_e hS hdn hJ 4 51 rfl rfl rfl rfl) arrFe (fun _ _ => rfl)
             · exact po_p _ HWF hJ hE rfl rfl rfl rfl rfl rfl rfl (x_assign (po_e hS hdn hJ 5 52 rfl rfl rfl rfl))
           · obtain ⟨b_t10, p_t10, lk_t10, r_t10, d_t10⟩ := hJ.row 6 (by decide) rfl (by decide)
             rw [putO_true _ _ _ _ _ rfl]
             simp only [putA, Nat.zero_add, Nat.reduceAdd]
             rw [hJ.tt 0 rfl, hJ.tt 1 rfl, hJ.tt 2 rfl, hJ.tt 3 rfl, hJ.tt 4 rfl, hJ.tt 5 rfl, p_t10, hJ.tt 8 rfl]
             simp only [Act.put, zA, zB, zC]
             refine po_end ?_
             have n_t2_t10 := zrn r_t2 lk_t10
             have n_t5_t10 := zrn r_t5 lk_t10
             have n_t7_t10 := zrn r_t7 lk_t10
             have n_t8_t10 := zrn r_t8 lk_t10
             have n_t9_t10 := zrn r_t9 lk_t10
             have l_t10 := zrl HGS Bw15 lk_t10
             replace r_t2 := Keep.row hE r_t2 rfl
             replace r_t5 := Keep.row hE r_t5 rfl
             replace r_t7 := Keep.row hE r_t7 rfl
             replace r_t8 := Keep.row hE r_t8 rfl
             replace r_t9 := Keep.row hE r_t9 rfl
             have Bw16 := hE.below Bw15 (HGS.out _ Bw15) rfl
             clear Bw15 hE hJ p_t10 lk_t10 d_t10
             go_wp2_with (first
               | (have hgo := Bw16; clear hgo
                  refine wpList_load_cat rfl (.tmp 54) rfl (HC31.out _ Bw16) rfl ?_
                  have Bw17 := Bw16
                  clear Bw16)
               | (have hgo := Bw17; clear hgo
                  refine wpList_shr7 rfl (.tmp 55) (.const (.int .u64 7)) rfl rfl rfl HSH.out HQL.out ?_
                  have Bw18 := Bw17
                  clear Bw17)
               | (have hgo := Bw18; clear hgo
                  refine wpList_load_given rfl 61 (.tmp 10) rfl 16 arrFe r_t10 rfl (by omega) ?_
                  simp only [Nat.zero_add]
                  have Bw19 := Bw18
                  clear Bw18)
               | (have hgo := Bw19; clear hgo
                  refine wpList_value_given rfl (.agg (arrOf 16 (feF 0))) (by rw [exec_mkOp]; exact exec_zeroFe _ _) ?_
                  have Bw20 := Bw19
                  clear Bw19)
               | (have hgo := Bw20; clear hgo
                  refine wpList_value_given rfl (.bool false) (by rw [exec_mkOp]; exact exec_Fe_eq2 _ _ _ _ Hx.out p25_pos (decide_eq_false HX0.out) rfl rfl) ?_
                  have Bw21 := Bw20
                  clear Bw20)
               | (have hgo := Bw21; clear hgo
                  refine wpList_load_as rfl 61 (.tmp 10) rfl 16 (feF x) arrFe r_t10 rfl (by omega) (fun i hi => by rw [Nat.zero_add]) ?_
                  have Bw22 := Bw21
                  clear Bw21)
               | (have hgo := Bw22; clear hgo
                  go_at_call 99
                  refine (refNeg5_any x _ Hx.out).mono ?_
                  rintro e w41 ⟨rfl, kk⟩
                  replace r_t2 := zrb r_t2 kk
                  replace r_t5 := zrb r_t5 kk
                  replace r_t7 := zrb r_t7 kk
                  replace r_t8 := zrb r_t8 kk
                  replace r_t9 := zrb r_t9 kk
                  replace r_t10 := zrb r_t10 kk
                  have Bw23 := zbt HGS Bw22 kk
                  clear Bw22 kk)
               | (have hgo := Bw23; clear hgo
                  refine wpList_store_as rfl 61 (.tmp 10) (.tmp 71) rfl 16 (feF (oppP x)) arrFe r_t10 rfl rfl (by omega) (fun _ _ => rfl) (fun i hi => putN_whole hi) ?_
                  intro w42 q gk
                  replace r_t2 := gb_rowIs r_t2 gk n_t2_t10
                  replace r_t5 := gb_rowIs r_t5 gk n_t5_t10
                  replace r_t7 := gb_rowIs r_t7 gk n_t7_t10
                  replace r_t8 := gb_rowIs r_t8 gk n_t8_t10
                  replace r_t9 := gb_rowIs r_t9 gk n_t9_t10
                  replace r_t10 := q
                  have Bw24 := zbg HGS Bw23 gk l_t10
                  clear Bw23 gk q))
             have Bw25 := Bw24.drew
             replace r_t2 := World.rowIs.drew r_t2
             replace r_t5 := World.rowIs.drew r_t5
             replace r_t7 := World.rowIs.drew r_t7
             replace r_t8 := World.rowIs.drew r_t8
             replace r_t9 := World.rowIs.drew r_t9
             replace r_t10 := World.rowIs.drew r_t10
             clear Bw24
             refine zpo [b_t2] (.rd 0 (.rd 1 .done)) #[true, true, false, false, false, false] [2, 3, 4, 5] [some 74, some 75, none, some 3] [[], [0], [0, 1], [0, 1, 2]] [(0, []), (1, []), (2, []), (3, [0, 1, 2]), (4, [3, 2, 0, 1, 2, 3]), (5, [4, 0, 1, 2, 3, 4])] 3 ?_
             refine zld (feF (oppP x)) arrFe r_t10 (cont1 (Ne.symm n_t2_t10)) (fun i hi => by rw [Nat.zero_add]) rfl rfl rfl rfl rfl (by omega) ?_
             refine zld (feF Y) arrFe r_t5 (cont1 (Ne.symm n_t2_t5)) (fun i hi => by rw [Nat.zero_add]) rfl rfl rfl rfl rfl (by omega) ?_
             simp only [Act.put, zA, zB, zC]
             refine lintz_leaf ?_
             refine po_start [.val (.agg (arrOf 16 (feF 1))), .val (.agg (arrOf 48 (ptF (oppP x) Y 1))), .nil, .val ((.int .i64 0))] [⟨b_t2, 63, 48, (u64f fun _ => 0), 2, (ptF (oppP x) Y 1)⟩] (fun i hi => by obtain rfl : i = 0 := by { have h9 : i < 1 := hi; omega }; exact r_t2) (fun HWF m gz wa p az hp hm hmp hcl hdn hE hJ hS hO => ?_) (fun gz wa hE hJ => ?_)
             · rcases (show p = 0 ∨ p = 1 ∨ p = 2 ∨ p = 3 by have h9 : p < 4 := hp; omega) with rfl | rfl | rfl | rfl
               · exact po_k HWF hJ hE (refSmall_any 1 _ (by decide)) rfl rfl rfl rfl rfl rfl (ar1 rfl)
               · have e72 : az.eval (.tmp 72) = .agg (arrOf 16 (feF (oppP x))) := hO 72 rfl
                 have e73 : az.eval (.tmp 73) = .agg (arrOf 16 (feF Y)) := hO 73 rfl
                 have e74 := po_e hS hdn hJ 0 74 rfl rfl rfl rfl
                 exact po_p _ HWF hJ hE rfl rfl rfl rfl rfl rfl rfl (exec_build_as _ _ _ (by simp only [List.map_toArray, List.map_cons, List.map_nil, e72, e73, e74]; exact builtP (oppP x) Y 1))
               · exact po_storeOld 0 (.tmp 2) (.tmp 75) 63 b_t2 48 _ (by rw [hm]; exact hp) hmp hJ rfl (show 0 < 1 by decide) rfl rfl rfl rfl rfl (World.rowIs.lt r_t2) (by simp) (by kernel_rfl) po_ne1 hE rfl rfl rfl rfl rfl (hO 2 rfl) (po_e hS hdn hJ 1 75 rfl rfl rfl rfl) arrP (fun j _ => ptF_one _ _ _ j)
               · exact po_p _ HWF hJ hE rfl rfl rfl rfl rfl rfl rfl (x_assign rfl)
             · rw [putO_true _ _ _ _ _ rfl]
               simp only [putA, Nat.zero_add, Nat.reduceAdd]
               rw [hJ.tt 0 rfl, hJ.tt 1 rfl, hJ.tt 3 rfl]
               simp only [Act.put, zA, zB, zC]
               refine po_end ?_
               replace r_t2 : wa.rowIs b_t2 63 48 (ptF (oppP x) Y 1) := hJ.old 0 (show 0 < 1 by decide) (show 2 < 4 by decide)
               replace r_t5 := Keep.row hE r_t5 (cont1 (Ne.symm n_t2_t5))
               replace r_t7 := Keep.row hE r_t7 (cont1 (Ne.symm n_t2_t7))
               replace r_t8 := Keep.row hE r_t8 (cont1 (Ne.symm n_t2_t8))
               replace r_t9 := Keep.row hE r_t9 (cont1 (Ne.symm n_t2_t9))
               replace r_t10 := Keep.row hE r_t10 (cont1 (Ne.symm n_t2_t10))
               have Bw26 := hE.below Bw25 (HGS.out _ Bw25) (keep_all1 l_t2)
               clear Bw25 hE hJ 
               go_wp2
               exact ret_cell_as_tmp _ rfl arrP r_t2 rfl rfl (by omega) (fun _ _ => rfl) rfl ⟨by rw [HYv.out]; rfl, Bw26⟩
theorem refDecode_3 (v : Value) (l : List UInt8) (w : World) (h : Bs w v l) (hl : l.length = 32) (hY : numL l 32 % top < p25) (hx : decX (numL l 32 % top) = none) : Calls Tryz.prog 44 #[v] w fun e w' => e = .returned (.tuple #[.agg (arrOf 48 (ptF 0 1 1)), .int .i64 12]) ∧ Below w.heap.size w w' := by
 refine refDecode_r v l w h hl hY _ (fun g => ?_) (fun y g a b => ?_) (fun y g a => ?_) (fun y g a b => ?_)
 · rfl
 · cases hx.symm.trans g
 · cases hx.symm.trans g
 · cases hx.symm.trans g
theorem refDecode_4 (v : Value) (l : List UInt8) (w : World) (h : Bs w v l) (hl : l.length = 32) (hY : numL l 32 % top < p25) (x : Nat) (hx : decX (numL l 32 % top) = some x) (ho : numL l 32 / top = 1) (hx0 : x = 0) : Calls Tryz.prog 44 #[v] w fun e w' => e = .returned (.tuple #[.agg (arrOf 48 (ptF 0 1 1)), .int .i64 12]) ∧ Below w.heap.size w w' := by
 refine refDecode_r v l w h hl hY _ (fun g => ?_) (fun y g a b => ?_) (fun y g a => ?_) (fun y g a b => ?_)
 · cases hx.symm.trans g
 · rfl
 · exact absurd (ho.symm.trans a) (by decide)
 · cases hx.symm.trans g; exact absurd hx0 b
theorem refDecode_5 (v : Value) (l : List UInt8) (w : World) (h : Bs w v l) (hl : l.length = 32) (hY : numL l 32 % top < p25) (x : Nat) (hx : decX (numL l 32 % top) = some x) (ho : numL l 32 / top = 0) (hx0 : x = 0) : Calls Tryz.prog 44 #[v] w fun e w' => e = .returned (.tuple #[.agg (arrOf 48 (ptF x (numL l 32 % top) 1)), .int .i64 0]) ∧ Below w.heap.size w w' := by
 refine refDecode_r v l w h hl hY _ (fun g => ?_) (fun y g a b => ?_) (fun y g a => ?_) (fun y g a b => ?_)
 · cases hx.symm.trans g
 · exact absurd (ho.symm.trans a) (by decide)
 · cases hx.symm.trans g; try rfl
 · exact absurd (ho.symm.trans a) (by decide)
theorem refDecode_6 (v : Value) (l : List UInt8) (w : World) (h : Bs w v l) (hl : l.length = 32) (hY : numL l 32 % top < p25) (x : Nat) (hx : decX (numL l 32 % top) = some x) (ho : numL l 32 / top = 0) (hx0 : x ≠ 0) : Calls Tryz.prog 44 #[v] w fun e w' => e = .returned (.tuple #[.agg (arrOf 48 (ptF x (numL l 32 % top) 1)), .int .i64 0]) ∧ Below w.heap.size w w' := by
 refine refDecode_r v l w h hl hY _ (fun g => ?_) (fun y g a b => ?_) (fun y g a => ?_) (fun y g a b => ?_)
 · cases hx.symm.trans g
 · exact absurd (ho.symm.trans a) (by decide)
 · cases hx.symm.trans g; try rfl
 · exact absurd (ho.symm.trans a) (by decide)
theorem refDecode_7 (v : Value) (l : List UInt8) (w : World) (h : Bs w v l) (hl : l.length = 32) (hY : numL l 32 % top < p25) (x : Nat) (hx : decX (numL l 32 % top) = some x) (ho : numL l 32 / top = 1) (hx0 : x ≠ 0) : Calls Tryz.prog 44 #[v] w fun e w' => e = .returned (.tuple #[.agg (arrOf 48 (ptF (oppP x) (numL l 32 % top) 1)), .int .i64 0]) ∧ Below w.heap.size w w' := by
 refine refDecode_r v l w h hl hY _ (fun g => ?_) (fun y g a b => ?_) (fun y g a => ?_) (fun y g a b => ?_)
 · cases hx.symm.trans g
 · cases hx.symm.trans g; exact absurd b hx0
 · exact absurd (ho.symm.trans a) (by decide)
 · cases hx.symm.trans g; try rfl
theorem less_atB (V P i : Nat) (h : V / 256 ^ (i + 1) = P / 256 ^ (i + 1)) (hne : byteN V i ≠ byteN P i) : byteN P i < byteN V i ↔ P ≤ V := by
 have e : ∀ X : Nat, X / 256 ^ i = 256 * (X / 256 ^ (i + 1)) + byteN X i := fun X => by
   unfold byteN
   rw [Nat.pow_succ, ← Nat.div_div_eq_div_mul]
   omega
 have h1 := e V
 have h2 := e P
 rw [h] at h1
 constructor
 · intro hlt
   apply Classical.byContradiction
   intro hn
   have := Nat.div_le_div_right (c := 256 ^ i) (show V ≤ P by omega)
   omega
 · intro hle
   have := Nat.div_le_div_right (c := 256 ^ i) hle
   omega
theorem same_atB (V P i : Nat) (h : V / 256 ^ (i + 1) = P / 256 ^ (i + 1)) (he : byteN V i = byteN P i) : V / 256 ^ i = P / 256 ^ i := by
 have e : ∀ X : Nat, X / 256 ^ i = 256 * (X / 256 ^ (i + 1)) + byteN X i := fun X => by
   unfold byteN
   rw [Nat.pow_succ, ← Nat.div_div_eq_div_mul]
   omega
 rw [e V, e P, h, he]
def bF (n V : Nat) : Nat → Value := fun i => .int .u8 ((byteN V (n - 1 - i) : Nat) : Int)
set_option maxRecDepth 10000 in
theorem refOrder_any (w : World) : Calls Tryz.prog 118 #[] w fun e w' => e = .returned (.slice (some ⟨w.heap.size, 0, none⟩) 32 32) ∧ w'.rowIs w.heap.size 5 32 (bF 32 ordL) ∧ Below w.heap.size w w' := by
 go_enter Tryz.func118, Tryz.ntmps118
 go_wp2
 go_ret
 refine ⟨rfl, ?_, (Below.refl _ _).alloc (Nat.le_refl _) _⟩
 have h := rowIs_arr w 32 (bF 32 ordL) 5
 have e : arrOf 32 (bF 32 ordL) = #[Value.int .u8 0x10, .int .u8 0, .int .u8 0, .int .u8 0, .int .u8 0, .int .u8 0, .int .u8 0, .int .u8 0, .int .u8 0, .int .u8 0, .int .u8 0, .int .u8 0, .int .u8 0, .int .u8 0, .int .u8 0, .int .u8 0, .int .u8 0x14, .int .u8 0xde, .int .u8 0xf9, .int .u8 0xde, .int .u8 0xa2, .int .u8 0xf7, .int .u8 0x9c, .int .u8 0xd6, .int .u8 0x58, .int .u8 0x12, .int .u8 0x63, .int .u8 0x1a, .int .u8 0x5c, .int .u8 0xf5, .int .u8 0xd3, .int .u8 0xed] := by kernel_rfl
 rw [e] at h
 exact h
theorem arrB33 : IsArr Tryz.prog 143 33 := ⟨by kernel_rfl, by kernel_rfl⟩
theorem zeroB33 : (Tryz.prog.info? 143).map (fun i => i.zero) = some (some (.agg (arrOf 33 fun _ => .int .u8 0))) := by kernel_rfl
theorem arrSc : IsArr Tryz.prog 67 32 := ⟨by kernel_rfl, by kernel_rfl⟩
theorem zeroSc : (Tryz.prog.info? 67).map (fun i => i.zero) = some (some (.agg (arrOf 32 fun _ => .int .u8 0))) := by kernel_rfl
theorem ordL_lt : ordL < 256 ^ 32 := by decide +kernel
theorem ordL_lt33 : ordL < 256 ^ 33 := by decide +kernel
set_option maxHeartbeats 1000000 in
theorem refAbove_any (V : Nat) (w : World) (hV : V < 256 ^ 33) : Calls Tryz.prog 119 #[.agg (arrOf 33 (bF 33 V))] w fun e w' => e = .returned (.bool (decide (ordL ≤ V))) ∧ Below w.heap.size w w' := by
 have ha0 := rowIs_arr w 33 (bF 33 V) 143
 have hb0 : Below w.heap.size w (w.alloc (.cells (arrOf 33 (bF 33 V)) 143)) := (Below.refl _ _).alloc (Nat.le_refl _) _
 have h33 : V / 256 ^ 33 = ordL / 256 ^ 33 := by rw [Nat.div_eq_of_lt hV, Nat.div_eq_of_lt ordL_lt33]
 have hc0 := ha0.cell (i := 0) (by omega)
 have hL32 : byteN ordL 32 = 0 := by decide +kernel
 have HLS := Lib.hid (less_atB V ordL 32 h33)
 have HSM := Lib.hid (same_atB V ordL 32 h33)
 unfold bF at hc0
 rw [show 33 - 1 - 0 = 32 from rfl] at hc0
 rw [hL32] at HLS HSM
 obtain ⟨x0, hx0⟩ := nat_var (byteN V 32)
 rw [← hx0] at hc0 HLS HSM
 clear h33 hV hL32 hx0
 go_enter Tryz.func119, Tryz.ntmps119
 by_cases hz : x0 = 0
 · have HE := Lib.hid (HSM.out hz)
   have hzI : (x0 : Int) = 0 := by omega
   rw [hzI] at hc0
   clear HLS HSM hz hzI
   go_wp2_with (go_at_call 118; refine (refOrder_any _).mono ?_; rintro e w1 ⟨rfl, hl1, hb1⟩
                have ha1 := ha0.of_block (hb1.block _ ha0.lt)
                have hB1 := hb0.trans (hb1.mono hb0.size)
                have hc1 := (hb1.cell (p := ⟨w.heap.size, 0, none⟩) ha0.lt).trans hc0
                clear ha0 hb0 hb1 hc0)
   clear hc1
   rw [World.size_alloc] at hl1
   generalize hga : w.heap.size = ga at *
   generalize ga + 1 = gl at *
   have HGA := Lib.hid hga
   clear hga
   go_loopw [4] (fun i wr => ∃ j : Nat, j ≤ 32 ∧ i = .int .i64 (j : Int) ∧ Hid (V / 256 ^ (32 - j) = ordL / 256 ^ (32 - j)) ∧ wr.rowIs ga 143 33 (bF 33 V) ∧ wr.rowIs gl 5 32 (bF 32 ordL) ∧ Below ga w wr) (fun i _ => 32 - (intOf i).toNat)
   case atStart => exact ⟨0, Nat.zero_le _, rfl, HE, ha1, hl1, hB1⟩
   case round =>
     clear ha1 hl1 hB1 HE
     obtain ⟨j, hj, rfl, HE, hA, hP, hB⟩ := hrel
     by_cases hlt : j < 32
     · have hcA := hA.cell (i := j + 1) (by omega)
       have hcP := hP.cell (i := j) (by omega)
       unfold bF at hcA hcP
       rw [show 33 - 1 - (j + 1) = 31 - j by omega] at hcA
       rw [show 32 - 1 - j = 31 - j by omega] at hcP
       have he2 := HE.out
       rw [show 32 - j = (31 - j) + 1 by omega] at he2
       have HL := Lib.hid (less_atB V ordL (31 - j) he2)
       have HS := Lib.hid (same_atB V ordL (31 - j) he2)
       have hlA := byteN_lt V (31 - j)
       have hlP := byteN_lt ordL (31 - j)
       have hjI : 0 ≤ (j : Int) ∧ (j : Int) < 32 := by omega
       have hwj : IntKind.i64.wrap ((j : Int) + 1) = ((j + 1 : Nat) : Int) := by rw [IntWalk.i64_in _ (by omega)]; omega
       obtain ⟨j1, hj1⟩ := nat_var (j + 1)
       rw [← hj1] at hwj hcA
       have hj1I : 0 ≤ (j1 : Int) ∧ (j1 : Int) < 33 := by omega
       clear he2 HE
       by_cases he : byteN V (31 - j) = byteN ordL (31 - j)
       · have HN : Hid (V / 256 ^ (32 - (j + 1)) = ordL / 256 ^ (32 - (j + 1))) := Lib.hid (by rw [show 32 - (j + 1) = 31 - j by omega]; exact HS.out he)
         rw [he] at hcA
         clear HL HS he hlA
         generalize byteN ordL (31 - j) = x at *
         have HJ1 := Lib.hid hj1
         clear hj1
         go_wp2
         go_region
         go_wp2
         go_roundw
         case rel => exact ⟨j + 1, by omega, by rw [HJ1.out], HN, hA.drew, hP.drew, hB.drew⟩
         case measure => (have h1 := HJ1.out; simp [intOf]; omega)
       · have hd : decide (ordL ≤ V) = decide (byteN ordL (31 - j) < byteN V (31 - j)) := by
           have h := HL.out he
           by_cases h2 : byteN ordL (31 - j) < byteN V (31 - j)
           · rw [decide_eq_true (h.1 h2), decide_eq_true h2]
           · rw [decide_eq_false (fun h3 => h2 (h.2 h3)), decide_eq_false h2]
         have HD := Lib.hid hd
         have hneI : ¬ ((byteN V (31 - j) : Nat) : Int) = ((byteN ordL (31 - j) : Nat) : Int) := by omega
         clear HL HS hd he hj1
         generalize byteN ordL (31 - j) = x at *
         generalize byteN V (31 - j) = y at *
         go_wp2
         go_region
         go_wp2
         go_region
         go_wp2
         go_ret
         exact ⟨by rw [HD.out]; simp, by rw [HGA.out]; exact hB.drew.drew⟩
     · obtain rfl : j = 32 := by omega
       have hEq : V = ordL := by have := HE.out; rwa [Nat.sub_self, Nat.pow_zero, Nat.div_one, Nat.div_one] at this
       have HD : Hid (decide (ordL ≤ V) = true) := Lib.hid (decide_eq_true (by rw [hEq]; exact Nat.le_refl _))
       clear hEq HE
       go_wp2
       go_ret
       exact ⟨by rw [HD.out]; rfl, by rw [HGA.out]; exact hB⟩
 · have HD : Hid (ordL ≤ V) := Lib.hid ((HLS.out hz).1 (Nat.pos_of_ne_zero hz))
   have hzI : ¬ (x0 : Int) = 0 := by omega
   clear HLS HSM hz
   rw [decide_eq_true HD.out]
   go_wp2_with (go_at_call 118; refine (refOrder_any _).mono ?_; rintro e w1 ⟨rfl, hl1, hb1⟩
                have ha1 := ha0.of_block (hb1.block _ ha0.lt)
                have hB1 := hb0.trans (hb1.mono hb0.size)
                have hc1 := (hb1.cell (p := ⟨w.heap.size, 0, none⟩) ha0.lt).trans hc0
                clear ha0 hb0 hb1 hc0)
   go_ret
   exact ⟨rfl, hB1⟩
theorem rev_step (l : List UInt8) (k : Nat) (h : k < l.length) : (l.drop k).reverse = (l.drop (k + 1)).reverse ++ [l[k]] := by
 rw [List.drop_eq_getElem_cons h, List.reverse_cons]
set_option maxHeartbeats 1000000 in
theorem refTurned_any (v : Value) (l : List UInt8) (w : World) (hv : Bs w v l) (hl : l.length ≤ 1000000) :
   Calls Tryz.prog 84 #[v] w fun e w' => ∃ v', e = .returned v' ∧ Owns w' w.heap.size v' l.reverse ∧ Below w.heap.size w w' := by
 obtain ⟨a, n, cap, rfl, hn, hc1, hc2, hB0⟩ := hv.shape
 have HV := Lib.hid hB0
 have HN := Lib.hid hn
 have hnl : n ≤ 1000000 := by omega
 have hwn : IntKind.i64.wrap ((n : Int) - 1) = (n : Int) - 1 := IntWalk.i64_in _ (by omega)
 have hown := Owns.nil w w.heap.size
 have hbel := Below.refl w.heap.size w
 clear hv hB0
 go_enter Tryz.func84, Tryz.ntmps84
 go_wp2
 generalize hg0 : w.heap.size = g0 at *
 have HG := Lib.hid hg0
 have HGS : Hid (∀ wq : World, Below g0 w wq → g0 ≤ wq.heap.size) := Lib.hid fun wq h => by rw [← HG.out]; exact h.size
 clear hg0 hn
 go_loopw [3, 4] (fun out ii wr => ∃ j : Nat, j ≤ n ∧ ii = .int .i64 ((j : Int) - 1) ∧ Owns wr g0 out (l.drop j).reverse ∧ Below g0 w wr) (fun _ ii _ => ((intOf ii) + 1).toNat)
 case atStart => exact ⟨n, Nat.le_refl _, rfl, by rw [List.drop_eq_nil_of_le (by rw [HN.out]; exact Nat.le_refl _)]; exact hown, hbel⟩
 case round =>
   clear hown hbel
   obtain ⟨j, hj, rfl, hown, hbel⟩ := hrel
   cases j with
   | zero =>
     go_wp2
     go_ret
     exact ⟨_, rfl, by rw [HG.out]; exact hown, by rw [HG.out]; exact hbel⟩
   | succ k =>
     have hk : k < n := by omega
     rw [show ((k + 1 : Nat) : Int) - 1 = (k : Int) by omega]
     have hk0 : 0 ≤ (k : Int) ∧ (k : Int) < (n : Int) := by omega
     obtain ⟨b, off, cap', he, _, _, hbl, hc⟩ := HV.out.open_n HN.out (by omega)
     cases he
     have hkl : k < l.length := by rw [HN.out]; exact hk
     have hci := hc k hkl
     have hci2 := (hbel.cell (p := ⟨b, off + k, none⟩) (by rw [← HG.out]; exact hbl)).trans hci
     have HST := Lib.hid (rev_step l k hkl)
     obtain ⟨x, hx⟩ : ∃ x, x = l[k] := ⟨_, rfl⟩
     rw [← hx] at hci2 HST
     have hob := hown.alloc (.cells #[.int .u8 (x.toNat : Int)] 5)
     have hbx := Bs.one wr x
     have hb1 := hbel.alloc (HGS.out _ hbel) (.cells #[.int .u8 (x.toNat : Int)] 5)
     have hge := HGS.out _ hb1
     have hll : (l.drop (k + 1)).reverse.length ≤ 1000000 := by rw [List.length_reverse, List.length_drop]; omega
     have hwk : IntKind.i64.wrap ((k : Int) - 1) = (k : Int) - 1 := IntWalk.i64_in _ (by omega)
     clear hci hc hx hown hbel hkl
     go_wp2_with (refine wpList_app rfl (.tmp 12) (.tmp 17) rfl g0 _ _ ((l.drop (k + 1)).reverse) [x] hob hbx rfl rfl (by simp only [List.length_cons, List.length_nil]; omega) hge ?_; intro v6 w6 hown6 hg6)
     have hbel6 : Below g0 w w6 := hb1.grown hg6 (HGS.out _ hb1) (fun q hq => Owns.block hob q hq)
     have hown7 : Owns w6 g0 v6 (l.drop k).reverse := by rw [HST.out]; exact hown6
     clear hown6 hob hb1 hbx
     go_roundw
     case rel => exact ⟨k, by omega, rfl, hown7, hbel6⟩
     case measure => (simp [intOf]; try omega)
end Go.Proofs.YtonhpmaiagbheaaGreat
namespace Go.Proofs.YtonhpmaiagbheaaGreat
def cyD (R c p : Nat) : Nat := (2 * (R % 256 ^ p) + c) / 256 ^ p
theorem cyD_zero (R c : Nat) : cyD R c 0 = c := by simp [cyD, Nat.mod_one]
theorem mod_next (R p : Nat) : R % 256 ^ (p + 1) = R % 256 ^ p + 256 ^ p * byteN R p := by
 unfold byteN
 rw [Nat.pow_succ, Nat.mod_mul]
theorem cyD_step (R c p : Nat) : (cyD R c p + 2 * byteN R p) % 256 = byteN (2 * R + c) p ∧ (cyD R c p + 2 * byteN R p) / 256 = cyD R c (p + 1) := by
 have hp := pow256_pos p
 have h1 : (2 * (R % 256 ^ (p + 1)) + c) / 256 ^ p = cyD R c p + 2 * byteN R p := by
   rw [mod_next]
   unfold cyD
   rw [show 2 * (R % 256 ^ p + 256 ^ p * byteN R p) + c = 2 * (R % 256 ^ p) + c + 256 ^ p * (2 * byteN R p) by rw [Nat.mul_add, Nat.mul_left_comm]; omega, Nat.add_mul_div_left _ _ hp]
 constructor
 · have h2 : 2 * R + c = 2 * (R % 256 ^ (p + 1)) + c + 256 ^ p * (256 * (2 * (R / 256 ^ (p + 1)))) := by
     have h3 := Nat.mod_add_div R (256 ^ (p + 1))
     have e : 256 ^ p * (256 * (2 * (R / 256 ^ (p + 1)))) = 2 * (256 ^ (p + 1) * (R / 256 ^ (p + 1))) := by rw [Nat.pow_succ]; simp only [Nat.mul_assoc, Nat.mul_left_comm]
     rw [e]
     generalize 256 ^ (p + 1) * (R / 256 ^ (p + 1)) = z at *
     omega
   unfold byteN at *
   rw [h2, Nat.add_mul_div_left _ _ hp, Nat.add_mul_mod_self_left, h1]
 · rw [← h1]
   unfold cyD
   rw [Nat.div_div_eq_div_mul, ← Nat.pow_succ]
theorem cyD_le (R c p : Nat) (hc : c ≤ 1) : cyD R c p ≤ 1 := by
 have hp := pow256_pos p
 have h := Nat.mod_lt R hp
 unfold cyD
 have : (2 * (R % 256 ^ p) + c) / 256 ^ p < 2 := by
   rw [Nat.div_lt_iff_lt_mul hp]
   omega
 omega
def cyA (G L p : Nat) : Nat := (G % 256 ^ p + L % 256 ^ p) / 256 ^ p
theorem cyA_zero (G L : Nat) : cyA G L 0 = 0 := by simp [cyA, Nat.mod_one]
theorem cyA_le (G L p : Nat) : cyA G L p ≤ 1 := by
 have hp := pow256_pos p
 have h1 := Nat.mod_lt G hp
 have h2 := Nat.mod_lt L hp
 unfold cyA
 have : (G % 256 ^ p + L % 256 ^ p) / 256 ^ p < 2 := by
   rw [Nat.div_lt_iff_lt_mul hp]
   omega
 omega
theorem cyA_step (G L p : Nat) : byteN (G + L) p + 256 * cyA G L (p + 1) = byteN G p + byteN L p + cyA G L p := by
 have hp := pow256_pos p
 have h1 : (G % 256 ^ (p + 1) + L % 256 ^ (p + 1)) / 256 ^ p = cyA G L p + (byteN G p + byteN L p) := by
   rw [mod_next, mod_next]
   unfold cyA
   rw [show G % 256 ^ p + 256 ^ p * byteN G p + (L % 256 ^ p + 256 ^ p * byteN L p) = G % 256 ^ p + L % 256 ^ p + 256 ^ p * (byteN G p + byteN L p) by rw [Nat.mul_add]; omega, Nat.add_mul_div_left _ _ hp]
 have h2 : byteN (G + L) p = (cyA G L p + (byteN G p + byteN L p)) % 256 := by
   have h3 := Nat.mod_add_div G (256 ^ (p + 1))
   have h4 := Nat.mod_add_div L (256 ^ (p + 1))
   have e : G + L = G % 256 ^ (p + 1) + L % 256 ^ (p + 1) + 256 ^ p * (256 * (G / 256 ^ (p + 1) + L / 256 ^ (p + 1))) := by
     rw [← Nat.mul_assoc, show 256 ^ p * 256 = 256 ^ (p + 1) from rfl, Nat.mul_add]
     omega
   rw [show byteN (G + L) p = (G + L) / 256 ^ p % 256 from rfl, e, Nat.add_mul_div_left _ _ hp, Nat.add_mul_mod_self_left, h1]
 have h5 : cyA G L (p + 1) = (cyA G L p + (byteN G p + byteN L p)) / 256 := by
   rw [← h1]
   unfold cyA
   rw [Nat.div_div_eq_div_mul, ← Nat.pow_succ]
 omega
theorem double_lt {R c : Nat} (hR : R < ordL) (hc : c ≤ 1) : 2 * R + c < 2 * ordL := by omega
theorem sub_mod_L {D : Nat} (h1 : ordL ≤ D) (h2 : D < 2 * ordL) : D - ordL = D % ordL := by
 rw [Nat.mod_eq_sub_mod h1, Nat.mod_eq_of_lt (by omega)]
theorem double_mod (T c : Nat) : (2 * (T % ordL) + c) % ordL = (2 * T + c) % ordL := by
 rw [Nat.add_mod, Nat.mul_mod, Nat.mod_mod, ← Nat.mul_mod, ← Nat.add_mod]
theorem ordL_pos : 0 < ordL := by decide +kernel
theorem two_L_lt : 2 * ordL < 256 ^ 33 := by decide +kernel
end Go.Proofs.YtonhpmaiagbheaaGreat
namespace Go.Proofs.YtonhpmaiagbheaaGreat
open Go.RowKit Go.Deep
theorem bF_zero (n i : Nat) : bF n 0 i = .int .u8 0 := by
 unfold bF byteN
 rw [Nat.zero_div, Nat.zero_mod]
 rfl
theorem exec_sliceFromArr {P : Program} {w : World} (ρ : Operand → Value) (ty elem : TypeId) (x lo : Operand) (t : TypeId) {b off n : Nat} (j m off' : Nat) {k : IntKind} (hu : P.underlying ty = some (.array n elem)) (hi : (P.info? elem).map (fun i => i.size) = some 1)
   (hx : ρ x = .pointer (some ⟨b, off, none⟩)) (hlo : ρ lo = .int k (j : Int)) (hj : j < n) (hm : m = n - j) (ho : off' = off + j) :
   (execOp ρ (mkOp (.slice ty x (some lo) none none) t)).run P w = .ok (.value (.slice (some ⟨b, off', none⟩) m m)) w := by
 subst hm ho
 have hrun := run_sliceFrom_arr (P := P) w ty elem n b off j k hu hi hj
 simp [execOp, mkOp, hx, hlo, hrun, Result.andThen]
theorem Bs.of_part2 {w : World} {b m off n : Nat} {t : TypeId} {f : Nat → Value} (h : w.rowIs b t m f) (l : List UInt8) (hn : l.length = n) (hm : off + n ≤ m) (hcm : n ≤ maxLen)
   (hf : ∀ i (hi : i < l.length), f (off + i) = .int .u8 ((l[i]).toNat : Int)) : Bs w (.slice (some ⟨b, off, none⟩) n n) l := by
 subst hn
 refine ⟨_, _, rfl, Nat.le_refl _, hcm, (fun h => by cases h), fun x hx i hi => ?_⟩
 cases hx
 refine ⟨h.lt, ?_⟩
 have h2 := h.cell (i := off + i) (by omega)
 rw [hf i hi] at h2
 rw [add_eq]
 exact h2
def beL (V : Nat) : List UInt8 := (litB V 32).reverse
theorem beL_length (V : Nat) : (beL V).length = 32 := by unfold beL; rw [List.length_reverse, litB_length]
theorem beL_at (V i : Nat) (h : i < (beL V).length) : ((beL V)[i]).toNat = byteN V (31 - i) := by
 unfold beL at *
 rw [List.getElem_reverse, litB_at, UInt8.toNat_ofNat']
 have h2 : (litB V 32).length = 32 := litB_length _ _
 unfold byteN
 rw [show (litB V 32).length - 1 - i = 31 - i by omega]
theorem beL_getD (V i : Nat) (h : i < 32) : ((beL V).getD i 0).toNat = byteN V (31 - i) := by
 rw [getD_at _ i (by rw [beL_length]; exact h)]
 exact beL_at V i _
set_option maxHeartbeats 4000000 in
theorem refMod_any (v : Value) (l : List UInt8) (w : World) (hv : Bs w v l) (hl : l.length ≤ 1000) :
   Calls Tryz.prog 83 #[v] w fun e w' => e = .returned (.agg (arrOf 32 (bF 32 (expB l l.length % ordL)))) ∧ Below w.heap.size w w' := by
 obtain ⟨a, n, cap, rfl, hn, hc1, hc2, hB0⟩ := hv.shape
 have HV := Lib.hid hB0
 have HN := Lib.hid hn
 have hnl : n ≤ 1000 := by omega
 have hr2 := ((rowIs_arr w 32 (fun _ => .int .u8 0) 67).alloc (.cells (arrOf 33 fun _ => .int .u8 0) 143))
 have hr3 := rowIs_arr (w.alloc (.cells (arrOf 32 fun _ => .int .u8 0) 67)) 33 (fun _ => .int .u8 0) 143
 have hb0 := ((Below.refl w.heap.size w).alloc (Nat.le_refl _) (.cells (arrOf 32 fun _ => .int .u8 0) 67)).alloc (by simp) (.cells (arrOf 33 fun _ => .int .u8 0) 143)
 rw [World.size_alloc] at hr3
 clear hv hB0
 go_enter Tryz.func83, Tryz.ntmps83
 go_wp2_with (first
   | refine wpList_alloc_arr rfl 67 rfl (arrOf 32 fun _ => .int .u8 0) zeroSc ?_
   | refine wpList_alloc_arr rfl 143 rfl (arrOf 33 fun _ => .int .u8 0) zeroB33 ?_
   | (go_at_call 118; refine (refOrder_any _).mono ?_; rintro e w1 ⟨rfl, hl1, hb1⟩
      have h2 := hr2.of_block (hb1.block _ hr2.lt)
      have h3 := hr3.of_block (hb1.block _ hr3.lt)
      have hB := hb0.trans (hb1.mono hb0.size)
      clear hr2 hr3 hb0 hb1))
 rw [World.size_alloc, World.size_alloc] at hl1
 generalize hg0 : w.heap.size = g2 at *
 generalize hgl : g2 + 1 + 1 = gl at *
 generalize hg3 : g2 + 1 = g3 at *
 have n23 : g2 ≠ g3 := by omega
 have n2l : g2 ≠ gl := by omega
 have n3l : gl ≠ g3 := by omega
 have l3 : g2 ≤ g3 := by omega
 have HG := Lib.hid hg0
 have HGS : Hid (∀ wq : World, Below g2 w wq → g2 ≤ wq.heap.size) := Lib.hid fun wq h => by rw [← HG.out]; exact h.size
 clear hg0 hgl hg3 hn
 have h3' : w1.rowIs g3 143 33 (bF 33 (expB l 0 % ordL)) := h3.congr fun i _ => by
   rw [show expB l 0 % ordL = 0 from Nat.zero_mod _, bF_zero]
 clear h3
 go_loopw [5] (fun ii wr => ∃ i : Nat, i ≤ n ∧ ii = .int .i64 (i : Int) ∧ wr.rowIs g3 143 33 (bF 33 (expB l i % ordL)) ∧ wr.rowIs g2 67 32 (fun _ => .int .u8 0) ∧ wr.rowIs gl 5 32 (bF 32 ordL) ∧ Below g2 w wr) (fun ii _ => n - (intOf ii).toNat)
 case atStart => exact ⟨0, Nat.zero_le _, rfl, h3', h2, hl1, hB⟩
 case round =>
   clear h3' h2 hl1 hB
   obtain ⟨i, hi, rfl, h3, h2, hL, hB⟩ := hrel
   by_cases hlt : i < n
   · have hiI : 0 ≤ (i : Int) ∧ (i : Int) < (n : Int) := by omega
     go_wp2
     go_loopw [6] (fun kk wq => ∃ m : Nat, m ≤ 8 ∧ kk = .int .i64 ((m : Int) - 1) ∧ wq.rowIs g3 143 33 (bF 33 ((expB l i * 2 ^ (8 - m) + (l.getD i 0).toNat / 2 ^ m) % ordL)) ∧ wq.rowIs g2 67 32 (fun _ => .int .u8 0) ∧ wq.rowIs gl 5 32 (bF 32 ordL) ∧ Below g2 w wq) (fun kk _ => ((intOf kk) + 1).toNat)
     case atStart => exact ⟨8, Nat.le_refl _, rfl, by rw [expB_start]; exact h3, h2, hL, hB⟩
     case round =>
       clear h3 h2 hL hB
       obtain ⟨m, hm, rfl, h3, h2, hL, hB⟩ := hrel
       cases m with
       | zero =>
         rw [expB_end] at h3
         go_wp2
         go_roundw
         case rel => exact ⟨i + 1, by omega, by go_num, h3, h2, hL, hB⟩
         case measure => (simp [intOf]; try omega)
       | succ k =>
         have hk : k < 8 := by omega
         rw [show ((k + 1 : Nat) : Int) - 1 = (k : Int) by omega]
         have hk0 : 0 ≤ (k : Int) := by omega
         obtain ⟨b, off, cap', he, _, _, hbl, hc⟩ := HV.out.open_n HN.out (by omega)
         cases he
         have hiE : i < l.length := by rw [HN.out]; exact hlt
         have hci := hc i hiE
         rw [← getD_at l i hiE] at hci
         have hci2 := (hB.cell (p := ⟨b, off + i, none⟩) (by rw [← HG.out]; exact hbl)).trans hci
         obtain ⟨x, hx⟩ := nat_var ((l.getD i 0).toNat)
         have hx1 : x < 256 := by rw [hx]; exact UInt8.toNat_lt _
         rw [← hx] at hci2 h3
         have hstep := expB_step (expB l i) x k hk
         obtain ⟨T, hT⟩ := nat_var (expB l i * 2 ^ (8 - (k + 1)) + x / 2 ^ (k + 1))
         rw [← hT] at h3 hstep
         obtain ⟨y, hy⟩ := nat_var (x / 2 ^ k)
         have hyl : y < 256 := by rw [hy]; exact Nat.lt_of_le_of_lt (Nat.div_le_self _ _) hx1
         rw [← hy] at hstep
         obtain ⟨c0, hc0⟩ := nat_var (y % 2)
         have hc1 : c0 ≤ 1 := by omega
         rw [← hc0] at hstep
         have hdm := double_mod T c0
         obtain ⟨R, hR⟩ := nat_var (T % ordL)
         have hRL : R < ordL := by rw [hR]; exact Nat.mod_lt _ ordL_pos
         rw [← hR] at h3 hdm
         obtain ⟨D, hD⟩ := nat_var (2 * R + c0)
         have hDL : D < 2 * ordL := by rw [hD]; exact double_lt hRL hc1
         rw [← hD] at hdm
         have HST : Hid ((expB l i * 2 ^ (8 - k) + (l.getD i 0).toNat / 2 ^ k) % ordL = D % ordL) := Lib.hid (by rw [hdm, ← hstep, hy, hx])
         have HD := Lib.hid hD
         have HDL := Lib.hid hDL
         have HC1 := Lib.hid hc1
         have HC0 := Lib.hid hc0
         have HY := Lib.hid hy
         have HYL := Lib.hid hyl
         have HXL := Lib.hid hx1
         have HK := Lib.hid hk
         have hwk : IntKind.i64.wrap ((k : Int) - 1) = (k : Int) - 1 := IntWalk.i64_in _ (by omega)
         clear hc hci hx hT hstep hy hyl hc0 hc1 hdm hR hRL hD hDL hx1 hiE
         go_wp2_with (first
           | refine wpList_shr8 rfl (.tmp 29) (.tmp 30) rfl rfl rfl HY.out HK.out HXL.out ?_
           | refine wpList_and1 rfl (.tmp 31) (.const (.int .u8 1)) rfl rfl rfl HC0.out HYL.out ?_)
         have h3' := h3.congr (g := fun i => if 32 - i < 0 then bF 33 D i else bF 33 R i) fun i _ => by rw [if_neg (Nat.not_lt_zero _)]
         go_loopw [7, 8] (fun cc jj wz => ∃ p c : Nat, p ≤ 33 ∧ Hid (c = cyD R c0 p) ∧ cc = .int .u8 (c : Int) ∧ jj = .int .i64 (32 - (p : Int)) ∧ wz.rowIs g3 143 33 (fun i => if 32 - i < p then bF 33 D i else bF 33 R i) ∧ wz.rowIs g2 67 32 (fun _ => .int .u8 0) ∧ wz.rowIs gl 5 32 (bF 32 ordL) ∧ Below g2 w wz) (fun _ jj _ => ((intOf jj) + 1).toNat)
         case atStart => exact ⟨0, c0, Nat.zero_le _, Lib.hid (cyD_zero R c0).symm, rfl, rfl, h3', h2, hL, hB⟩
         case round =>
           clear h3' h3 h2 hL hB hci2
           obtain ⟨p, c, hp, HC, rfl, rfl, h3, h2, hL, hB⟩ := hrel
           by_cases hp33 : p < 33
           · obtain ⟨j, hj⟩ := nat_var (32 - p)
             rw [show 32 - (p : Int) = (j : Int) by omega]
             have HJ := Lib.hid hj
             have hjI : 0 ≤ (j : Int) ∧ (j : Int) < 33 := by omega
             have hcell := h3.cell (i := j) (by omega)
             rw [if_neg (by omega)] at hcell
             unfold bF at hcell
             rw [show 33 - 1 - j = p by omega] at hcell
             have hfr := h3.frozen j
             have hcy := cyD_step R c0 p
             have hcl := cyD_le R c0 p HC1.out
             rw [← HC.out, ← HD.out] at hcy
             rw [← HC.out] at hcl
             obtain ⟨t, ht⟩ := nat_var (byteN R p)
             have htl : t < 256 := by rw [ht]; exact byteN_lt R p
             rw [← ht] at hcell hcy
             obtain ⟨q, hq⟩ := nat_var (t / 128)
             obtain ⟨s, hs⟩ := nat_var (2 * t % 256)
             obtain ⟨z, hz⟩ := nat_var (s + c)
             have hq2 : q = cyD R c0 (p + 1) := by rw [← hcy.2]; omega
             have hz2 : z = byteN D p := by rw [← hcy.1]; omega
             have hset : (wr.setCell ⟨g3, j, none⟩ (.int .u8 (z : Int))).rowIs g3 143 33 (fun i => if 32 - i < p + 1 then bF 33 D i else bF 33 R i) := (h3.set j _).congr fun i hi => by
               show (if i = j then _ else _) = _
               by_cases e : i = j
               · subst e
                 rw [if_pos rfl, if_pos (by omega)]
                 unfold bF
                 rw [show 33 - 1 - i = p by omega, ← hz2]
               · rw [if_neg e]
                 by_cases e2 : 32 - i < p
                 · rw [if_pos e2, if_pos (by omega)]
                 · rw [if_neg e2, if_neg (by omega)]
             have h2' := gb_rowIs h2 (grownBy_set _ g3 j (.int .u8 (z : Int))) n23
             have hL' := gb_rowIs hL (grownBy_set _ g3 j (.int .u8 (z : Int))) n3l
             have hB' := hB.setCell (p := ⟨g3, j, none⟩) l3 (.int .u8 (z : Int))
             have HQ := Lib.hid hq
             have HS := Lib.hid hs
             have HZ := Lib.hid hz
             have HTL := Lib.hid htl
             have HSL : Hid (s < 256) := Lib.hid (by omega)
             have HS2 : Hid (s % 2 = 0) := Lib.hid (by omega)
             have HCL := Lib.hid hcl
             have HQ2 := Lib.hid hq2
             have hwj : IntKind.i64.wrap ((j : Int) - 1) = (j : Int) - 1 := IntWalk.i64_in _ (by omega)
             clear hj hcy hcl ht htl hq hs hz hq2 hz2 h3 h2 hL hB
             go_wp2_with (first
               | refine wpList_shr7 rfl (.tmp 39) (.const (.int .u64 7)) rfl rfl rfl HQ.out HTL.out ?_
               | refine wpList_shl1 rfl (.tmp 44) (.const (.int .u64 1)) rfl rfl rfl HS.out ?_
               | refine wpList_or1 rfl (.tmp 45) (.tmp 46) rfl rfl rfl HSL.out HS2.out HCL.out HZ.out ?_)
             go_roundw
             case rel => exact ⟨p + 1, q, by omega, HQ2, rfl, by have := HJ.out; go_num, hset, h2', hL', hB'⟩
             case measure => (simp [intOf]; try omega)
           · obtain rfl : p = 33 := by omega
             have hD3 := h3.congr (g := bF 33 D) fun i hi => by rw [if_pos (by omega)]
             clear h3
             have hwk2 := hwk
             by_cases hge : ordL ≤ D
             · have HAB : Hid (∀ w, Calls Tryz.prog 119 #[.agg (arrOf 33 (bF 33 D))] w fun e w' => e = .returned (.bool true) ∧ Below w.heap.size w w') := Lib.hid fun w => by
                 have h := refAbove_any D w (Nat.lt_trans HDL.out two_L_lt)
                 rwa [decide_eq_true hge] at h
               obtain ⟨G, hG⟩ := nat_var (D - ordL)
               have HDG : Hid (D = G + ordL) := Lib.hid (by omega)
               have HGM : Hid (G = D % ordL) := Lib.hid (by rw [hG]; exact sub_mod_L hge HDL.out)
               clear hge hG HD
               go_wp2_with (first
                 | (refine wpList_load_arr rfl 143 (.tmp 3) rfl 33 arrB33 hD3 rfl (by omega) ?_; simp only [Nat.zero_add])
                 | (go_at_call 119; refine (HAB.out _).mono ?_; rintro e wA ⟨rfl, hbA⟩
                    have k3 := hD3.of_block (hbA.block _ hD3.lt)
                    have k2 := h2.of_block (hbA.block _ h2.lt)
                    have kL := hL.of_block (hbA.block _ hL.lt)
                    have kB := hB.trans (hbA.mono (HGS.out _ hB))
                    clear hD3 h2 hL hB hbA))
               have k3' := k3.congr (g := fun i => if 32 - i < 0 then bF 33 G i else bF 33 D i) fun i _ => by rw [if_neg (Nat.not_lt_zero _)]
               go_loopw [10, 11] (fun bb jj wz => ∃ p c : Nat, p ≤ 33 ∧ Hid (c = cyA G ordL p) ∧ bb = .int .i64 (c : Int) ∧ jj = .int .i64 (32 - (p : Int)) ∧ wz.rowIs g3 143 33 (fun i => if 32 - i < p then bF 33 G i else bF 33 D i) ∧ wz.rowIs g2 67 32 (fun _ => .int .u8 0) ∧ wz.rowIs gl 5 32 (bF 32 ordL) ∧ Below g2 w wz) (fun _ jj _ => ((intOf jj) + 1).toNat)
               case atStart => exact ⟨0, 0, Nat.zero_le _, Lib.hid (cyA_zero G ordL).symm, rfl, rfl, k3', k2, kL, kB⟩
               case round =>
                 clear k3' k3 k2 kL kB hp33 hp
                 obtain ⟨p, c, hp, HC, rfl, rfl, h3, h2, hL, hB⟩ := hrel
                 by_cases hp33 : p < 33
                 · obtain ⟨j, hj⟩ := nat_var (32 - p)
                   rw [show 32 - (p : Int) = (j : Int) by omega]
                   have HJ := Lib.hid hj
                   have hjI : 0 ≤ (j : Int) ∧ (j : Int) < 33 := by omega
                   have hcell := h3.cell (i := j) (by omega)
                   rw [if_neg (by omega)] at hcell
                   unfold bF at hcell
                   rw [show 33 - 1 - j = p by omega] at hcell
                   have hfr := h3.frozen j
                   have hcs := cyA_step G ordL p
                   have hcle := cyA_le G ordL p
                   have hn2 := cyA_le G ordL (p + 1)
                   rw [← HDG.out, ← HC.out] at hcs
                   rw [← HC.out] at hcle
                   obtain ⟨d, hd⟩ := nat_var (byteN D p)
                   have hdl : d < 256 := by rw [hd]; exact byteN_lt D p
                   rw [← hd] at hcell hcs
                   obtain ⟨g, hg⟩ := nat_var (byteN G p)
                   have hgl : g < 256 := by rw [hg]; exact byteN_lt G p
                   rw [← hg] at hcs
                   obtain ⟨xl, hxl⟩ := nat_var (byteN ordL p)
                   have hxll : xl < 256 := by rw [hxl]; exact byteN_lt ordL p
                   rw [← hxl] at hcs
                   have hset : (wr.setCell ⟨g3, j, none⟩ (.int .u8 (g : Int))).rowIs g3 143 33 (fun i => if 32 - i < p + 1 then bF 33 G i else bF 33 D i) := (h3.set j _).congr fun i hi => by
                     show (if i = j then _ else _) = _
                     by_cases e : i = j
                     · subst e
                       rw [if_pos rfl, if_pos (by omega)]
                       unfold bF
                       rw [show 33 - 1 - i = p by omega, ← hg]
                     · rw [if_neg e]
                       by_cases e2 : 32 - i < p
                       · rw [if_pos e2, if_pos (by omega)]
                       · rw [if_neg e2, if_neg (by omega)]
                   have h2' := gb_rowIs h2 (grownBy_set _ g3 j (.int .u8 (g : Int))) n23
                   have hL' := gb_rowIs hL (grownBy_set _ g3 j (.int .u8 (g : Int))) n3l
                   have hB' := hB.setCell (p := ⟨g3, j, none⟩) l3 (.int .u8 (g : Int))
                   have hwd : IntKind.i64.wrap (d : Int) = (d : Int) := IntWalk.i64_in _ (by omega)
                   have hwg : IntKind.u8.wrap (g : Int) = (g : Int) := IntWalk.u8_in _ ⟨by omega, by omega⟩
                   have hwj : IntKind.i64.wrap ((j : Int) - 1) = (j : Int) - 1 := IntWalk.i64_in _ (by omega)
                   by_cases hbr : cyA G ordL (p + 1) = 0
                   · have HA : Hid (0 = cyA G ordL (p + 1)) := Lib.hid hbr.symm
                     rw [hbr] at hcs hn2
                     clear hbr h3
                     by_cases hp32 : p < 32
                     · clear hwj
                       have hcl := hL.cell (i := j - 1) (by omega)
                       unfold bF at hcl
                       rw [show 32 - 1 - (j - 1) = p by omega, ← hxl] at hcl
                       obtain ⟨j1, hj1⟩ := nat_var (j - 1)
                       rw [← hj1] at hcl
                       have HJ1 := Lib.hid hj1
                       have hwj1 : IntKind.i64.wrap ((j : Int) - 1) = (j1 : Int) := by rw [IntWalk.i64_in _ (by omega)]; omega
                       have hj1I : 0 ≤ (j1 : Int) ∧ (j1 : Int) < 32 := by omega
                       have hjp : 0 < (j : Int) := by omega
                       have hwx : IntKind.i64.wrap (xl : Int) = (xl : Int) := IntWalk.i64_in _ (by omega)
                       obtain ⟨u1, hu1⟩ : ∃ u1 : Int, u1 = (d : Int) - (xl : Int) := ⟨_, rfl⟩
                       have hv1 : IntKind.i64.wrap ((d : Int) - (xl : Int)) = u1 := by rw [← hu1]; exact IntWalk.i64_in _ (by omega)
                       have hv2 : IntKind.i64.wrap (u1 - (c : Int)) = (g : Int) := by rw [IntWalk.i64_in _ (by omega)]; omega
                       have hneg : ¬ (g : Int) < 0 := by omega
                       clear hd hg hxl hcs hj hdl hgl hxll hcle hn2 hj1 hu1
                       go_wp2
                       go_roundw
                       case rel => exact ⟨p + 1, 0, by omega, HA, rfl, by have := HJ.out; have := HJ1.out; go_num, hset, h2', hL', hB'⟩
                       case measure => (have := HJ.out; have := HJ1.out; simp [intOf]; try omega)
                     · skip
                       have hjp : ¬ 0 < (j : Int) := by omega
                       have hxz : xl = 0 := by rw [hxl, show p = 32 by omega]; decide +kernel
                       have hv2 : IntKind.i64.wrap ((d : Int) - (c : Int)) = (g : Int) := by rw [IntWalk.i64_in _ (by omega)]; omega
                       have hneg : ¬ (g : Int) < 0 := by omega
                       clear hd hg hxl hcs hj hdl hgl hxll hcle hn2 hxz
                       go_wp2
                       go_roundw
                       case rel => exact ⟨p + 1, 0, by omega, HA, rfl, by have := HJ.out; go_num, hset, h2', hL', hB'⟩
                       case measure => (have := HJ.out; simp [intOf]; try omega)
                   · have hbr1 : cyA G ordL (p + 1) = 1 := by omega
                     have HA : Hid (1 = cyA G ordL (p + 1)) := Lib.hid hbr1.symm
                     rw [hbr1] at hcs hn2
                     clear hbr hbr1 h3
                     by_cases hp32 : p < 32
                     · clear hwj
                       have hcl := hL.cell (i := j - 1) (by omega)
                       unfold bF at hcl
                       rw [show 32 - 1 - (j - 1) = p by omega, ← hxl] at hcl
                       obtain ⟨j1, hj1⟩ := nat_var (j - 1)
                       rw [← hj1] at hcl
                       have HJ1 := Lib.hid hj1
                       have hwj1 : IntKind.i64.wrap ((j : Int) - 1) = (j1 : Int) := by rw [IntWalk.i64_in _ (by omega)]; omega
                       have hj1I : 0 ≤ (j1 : Int) ∧ (j1 : Int) < 32 := by omega
                       have hjp : 0 < (j : Int) := by omega
                       have hwx : IntKind.i64.wrap (xl : Int) = (xl : Int) := IntWalk.i64_in _ (by omega)
                       obtain ⟨u1, hu1⟩ : ∃ u1 : Int, u1 = (d : Int) - (xl : Int) := ⟨_, rfl⟩
                       have hv1 : IntKind.i64.wrap ((d : Int) - (xl : Int)) = u1 := by rw [← hu1]; exact IntWalk.i64_in _ (by omega)
                       have hv2 : IntKind.i64.wrap (u1 - (c : Int)) = (g : Int) - 256 := by rw [IntWalk.i64_in _ (by omega)]; omega
                       obtain ⟨u2, hu2⟩ : ∃ u2 : Int, u2 = (g : Int) - 256 := ⟨_, rfl⟩
                       have hneg : u2 < 0 := by omega
                       have hv3 : IntKind.i64.wrap (u2 + 256) = (g : Int) := by rw [IntWalk.i64_in _ (by omega)]; omega
                       rw [← hu2] at hv2
                       clear hd hg hxl hcs hj hdl hgl hxll hcle hn2 hj1 hu1 hu2
                       go_wp2
                       go_roundw
                       case rel => exact ⟨p + 1, 1, by omega, HA, rfl, by have := HJ.out; have := HJ1.out; go_num, hset, h2', hL', hB'⟩
                       case measure => (have := HJ.out; have := HJ1.out; simp [intOf]; try omega)
                     · skip
                       have hjp : ¬ 0 < (j : Int) := by omega
                       have hxz : xl = 0 := by rw [hxl, show p = 32 by omega]; decide +kernel
                       have hv2 : IntKind.i64.wrap ((d : Int) - (c : Int)) = (g : Int) - 256 := by rw [IntWalk.i64_in _ (by omega)]; omega
                       obtain ⟨u2, hu2⟩ : ∃ u2 : Int, u2 = (g : Int) - 256 := ⟨_, rfl⟩
                       have hneg : u2 < 0 := by omega
                       have hv3 : IntKind.i64.wrap (u2 + 256) = (g : Int) := by rw [IntWalk.i64_in _ (by omega)]; omega
                       rw [← hu2] at hv2
                       clear hd hg hxl hcs hj hdl hgl hxll hcle hn2 hxz hu2
                       go_wp2
                       go_roundw
                       case rel => exact ⟨p + 1, 1, by omega, HA, rfl, by have := HJ.out; go_num, hset, h2', hL', hB'⟩
                       case measure => (have := HJ.out; simp [intOf]; try omega)
                 · obtain rfl : p = 33 := by omega
                   have hG3 := h3.congr (g := bF 33 G) fun i hi => by rw [if_pos (by omega)]
                   clear h3
                   go_wp2
                   go_roundw
                   case rel => exact ⟨k, by omega, rfl, by rw [HST.out, ← HGM.out]; exact hG3, h2, hL, hB⟩
                   case measure => (simp [intOf]; try omega)
             · have HAB : Hid (∀ w, Calls Tryz.prog 119 #[.agg (arrOf 33 (bF 33 D))] w fun e w' => e = .returned (.bool false) ∧ Below w.heap.size w w') := Lib.hid fun w => by
                 have h := refAbove_any D w (Nat.lt_trans HDL.out two_L_lt)
                 rwa [decide_eq_false hge] at h
               have HDM : Hid (D % ordL = D) := Lib.hid (Nat.mod_eq_of_lt (by omega))
               clear hge HD
               go_wp2_with (first
                 | (refine wpList_load_arr rfl 143 (.tmp 3) rfl 33 arrB33 hD3 rfl (by omega) ?_; simp only [Nat.zero_add])
                 | (go_at_call 119; refine (HAB.out _).mono ?_; rintro e wA ⟨rfl, hbA⟩
                    have k3 := hD3.of_block (hbA.block _ hD3.lt)
                    have k2 := h2.of_block (hbA.block _ h2.lt)
                    have kL := hL.of_block (hbA.block _ hL.lt)
                    have kB := hB.trans (hbA.mono (HGS.out _ hB))
                    clear hD3 h2 hL hB hbA))
               go_roundw
               case rel => exact ⟨k, by omega, rfl, by rw [HST.out, HDM.out]; exact k3, k2, kL, kB⟩
               case measure => (simp [intOf]; try omega)
   · obtain rfl : i = n := by omega
     rw [← HN.out] at h3
     obtain ⟨R, hR⟩ := nat_var (expB l l.length % ordL)
     rw [← hR] at h3
     have HR := Lib.hid hR
     have r2 := h2.alloc (.cells (arrOf 32 fun _ => .int .u8 0) 67)
     have r3 := h3.alloc (.cells (arrOf 32 fun _ => .int .u8 0) 67)
     have rs := rowIs_arr wr 32 (fun _ => .int .u8 0) 67
     have kB := hB.alloc (HGS.out _ hB) (.cells (arrOf 32 fun _ => .int .u8 0) 67)
     have hlt2 := h2.lt
     have hlt3 := h3.lt
     have hge := HGS.out _ hB
     clear h3 h2 hL hB hR
     go_wp2_with (refine wpList_alloc_arr rfl 67 rfl (arrOf 32 fun _ => .int .u8 0) zeroSc ?_)
     generalize hwa : wr.alloc (.cells (arrOf 32 fun _ => .int .u8 0) 67) = wa at *
     generalize hgs : wr.heap.size = gs at *
     have n2s : g2 ≠ gs := by omega
     have n3s : g3 ≠ gs := by omega
     have ls : g2 ≤ gs := by omega
     clear hwa hgs hlt2 hlt3
     replace r2 := World.rowIs.drew r2
     replace r3 := World.rowIs.drew r3
     replace rs := World.rowIs.drew rs
     replace kB := kB.drew
     have hBs := Bs.of_part2 (off := 1) (n := 32) r3 (beL R) (beL_length R) (by omega) (by unfold maxLen; omega) fun i hi => by
       rw [beL_at]
       unfold bF
       rw [beL_length] at hi
       rw [show 33 - 1 - (1 + i) = 31 - i by omega]
     refine wp_region_lins [(0, some [2]), (1, some [2]), (2, none)] (fun _ _ => True) (by kernel_rfl) (by kernel_rfl) (by decide) (by kernel_rfl) (fun d _ _ _ _ h => by cases d <;> exact h) (fun _ _ => trivial) ?_
     refine lins_read 80 (Op.slice 67 (Operand.tmp 14) none none none) 22 (.slice (some ⟨gs, 0, none⟩) 32 32) rfl rfl rfl rfl rfl (fun w0 hw0 => by exact exec_sliceAll _ _ 5 _ _ (by kernel_rfl) (by kernel_rfl) rfl (by omega)) ?_
     simp only [Act.put, List.setIfInBounds_toArray, List.set_cons_zero, List.set_cons_succ, Nat.zero_add]
     refine lins_read 81 (Op.slice 143 (Operand.tmp 3) (some (.const (.int .i64 1))) none none) 22 (.slice (some ⟨g3, 1, none⟩) 32 32) rfl rfl rfl rfl rfl (fun w0 hw0 => by exact exec_sliceFromArr _ _ 5 _ _ _ 1 32 1 (n := 33) (by kernel_rfl) (by kernel_rfl) rfl rfl (by omega) rfl rfl) ?_
     simp only [Act.put, List.setIfInBounds_toArray, List.set_cons_zero, List.set_cons_succ, Nat.zero_add]
     refine lins_copy (some 82) (.tmp 80) (.tmp 81) _ rfl rfl rfl rfl rfl rs hBs rfl rfl (by omega) 32 (by rw [beL_length]; rfl) ?_
     intro wc hrc hgc hsc
     have rc : wc.rowIs gs 67 32 (bF 32 R) := hrc.congr fun i hi => by
       unfold putN bytesAt
       rw [if_pos (by omega), Nat.sub_zero, beL_getD R i hi]
       unfold bF
       rw [show 32 - 1 - i = 31 - i by omega]
     have rc2 := gb_rowIs r2 hgc n2s
     have rB := kB.grown hgc (HGS.out _ kB) (by intro k hk; cases hk; exact ls)
     refine ⟨fun _ _ => True, fun c hc => (by cases hc), ?_⟩
     clear hrc hgc hsc rs r2 r3 kB hBs
     simp only [Act.put, List.setIfInBounds_toArray, List.set_cons_zero, List.set_cons_succ, Nat.zero_add]
     refine lins_end ?_
     go_wp2_with (first
       | (refine wpList_load_arr rfl 67 (.tmp 14) rfl 32 arrSc rc rfl (by omega) ?_; simp only [Nat.zero_add])
       | (refine wpList_store_arr rfl 67 (.tmp 2) (.tmp 83) rfl 32 arrSc rc2 rfl rfl (by omega) (fun _ _ => rfl) ?_; intro wd hrd hgd hsd))
     refine ret_cell_arr rfl arrSc hrd rfl (by omega) rfl ⟨?_, by rw [HG.out]; exact rB.grown hgd (HGS.out _ rB) (by intro k hk; cases hk; exact Nat.le_refl _)⟩
     rw [← HR.out]
     refine congrArg (fun x => Ending.returned (.agg x)) (arrOf_congr fun i hi => ?_)
     unfold putN
     rw [if_pos (by omega), Nat.zero_add, Nat.sub_zero]
theorem numL_congr {l m : List UInt8} : ∀ k, (∀ i, i < k → l.getD i 0 = m.getD i 0) → numL l k = numL m k
 | 0, _ => rfl
 | k + 1, h => by
   rw [numL, numL, numL_congr k (fun i hi => h i (by omega)), h k (by omega)]
theorem numL_cons (x : UInt8) (l : List UInt8) : ∀ k, numL (x :: l) (k + 1) = x.toNat + 256 * numL l k
 | 0 => by simp [numL]
 | k + 1 => by
   rw [numL, numL_cons x l k, numL]
   rw [show (x :: l).getD (k + 1) 0 = l.getD k 0 from rfl, Nat.pow_succ, Nat.mul_add]
   have : (l.getD k 0).toNat * (256 ^ k * 256) = 256 * ((l.getD k 0).toNat * 256 ^ k) := by ac_rfl
   omega
theorem expB_congr {l m : List UInt8} : ∀ k, (∀ i, i < k → l.getD i 0 = m.getD i 0) → expB l k = expB m k
 | 0, _ => rfl
 | k + 1, h => by
   rw [expB, expB, expB_congr k (fun i hi => h i (by omega)), h k (by omega)]
theorem expB_rev : ∀ (k : Nat) (M : List UInt8), M.length = k → expB M k = numL M.reverse k
 | 0, _, _ => rfl
 | k + 1, M, h => by
   have hne : M ≠ [] := by intro e; subst e; simp at h
   obtain ⟨N, x, rfl⟩ : ∃ N x, M = N ++ [x] := ⟨M.dropLast, M.getLast hne, (List.dropLast_concat_getLast hne).symm⟩
   have hN : N.length = k := by simpa using h
   rw [List.reverse_append, List.reverse_singleton, List.singleton_append, numL_cons, ← expB_rev k N hN, expB]
   rw [show (N ++ [x]).getD k 0 = x by rw [List.getD_eq_getElem?_getD, List.getElem?_append_right (by omega), hN]; simp]
   rw [expB_congr k (l := N ++ [x]) (m := N) fun i hi => by rw [List.getD_eq_getElem?_getD, List.getD_eq_getElem?_getD, List.getElem?_append_left (by omega)]]
   omega
def fillN (l : List UInt8) (n : Nat) : List UInt8 := (List.range n).map fun i => l.getD i 0
theorem fillN_length (l : List UInt8) (n : Nat) : (fillN l n).length = n := by simp [fillN]
theorem fillN_getD (l : List UInt8) (n i : Nat) (h : i < n) : (fillN l n).getD i 0 = l.getD i 0 := by
 unfold fillN
 rw [List.getD_eq_getElem?_getD, List.getElem?_map, List.getElem?_range h]
 rfl
theorem fillN_rev (l : List UInt8) (n : Nat) : expB (fillN l n).reverse n = numL l n := by
 rw [expB_rev n _ (by rw [List.length_reverse, fillN_length]), List.reverse_reverse]
 exact numL_congr n fun i hi => fillN_getD l n i hi
theorem beL_rev (V : Nat) : (beL V).reverse = litB V 32 := by unfold beL; rw [List.reverse_reverse]
theorem undSc : Tryz.prog.underlying 67 = some (.array 32 5) := by kernel_rfl
theorem infoU8 : (Tryz.prog.info? 5).map (fun i => i.size) = some 1 := by kernel_rfl
set_option maxHeartbeats 1000000 in
theorem refScBytes_any (V : Nat) (w : World) : Calls Tryz.prog 38 #[.agg (arrOf 32 (bF 32 V))] w fun e w' => ∃ v, e = .returned v ∧ Owns w' w.heap.size v (litB V 32) ∧ Below w.heap.size w w' := by
 have hr := rowIs_arr w 32 (bF 32 V) 67
 have hb0 := (Below.refl w.heap.size w).alloc (Nat.le_refl _) (.cells (arrOf 32 (bF 32 V)) 67)
 have hBs := Bs.of_part2 (off := 0) (n := 32) hr (beL V) (beL_length V) (by omega) (by unfold maxLen; omega) fun i hi => by
   rw [beL_at]
   unfold bF
   rw [Nat.zero_add]
 have HT := Lib.hid (refTurned_any _ (beL V) _ hBs (by rw [beL_length]; omega))
 rw [beL_rev] at HT
 have HB0 := Lib.hid hb0
 clear hr hBs hb0
 go_enter Tryz.func38, Tryz.ntmps38
 go_wp2_with (first
   | refine wpList_op rfl (.slice 67 (.tmp 1) none none none) 22 (.slice (some ⟨w.heap.size, 0, none⟩) 32 32) rfl rfl (exec_sliceAll _ _ _ _ _ undSc infoU8 rfl (by omega)) ?_
   | (go_at_call 84; refine HT.out.mono ?_; rintro e w1 ⟨v1, rfl, hO, hb⟩))
 go_ret
 exact ⟨_, rfl, hO.lower (by simp), HB0.out.trans (hb.mono (by simp))⟩
set_option maxHeartbeats 1000000 in
theorem refWide_any (v : Value) (l : List UInt8) (w : World) (hv : Bs w v l) : Calls Tryz.prog 32 #[v] w fun e w' => e = .returned (.agg (arrOf 32 (bF 32 (numL l 64 % ordL)))) ∧ Below w.heap.size w w' := by
 have hr := rowIs_arr w 32 (fun _ => .int .u8 0) 67
 have hb0 := (Below.refl w.heap.size w).alloc (Nat.le_refl _) (.cells (arrOf 32 fun _ => .int .u8 0) 67)
 have HF := Lib.hid (refFillRow_any v l 64 _ (hv.below hb0 (Nat.le_refl _)) (by omega) (by omega))
 have hlen : (fillN l 64).reverse.length = 64 := by rw [List.length_reverse, fillN_length]
 have HM := Lib.hid fun v w (h : Bs w v (fillN l 64).reverse) => refMod_any v (fillN l 64).reverse w h (by rw [hlen]; omega)
 rw [hlen, fillN_rev] at HM
 obtain ⟨V, hV⟩ := nat_var (numL l 64 % ordL)
 rw [← hV] at HM ⊢
 clear hV
 have HGS : Hid (∀ wq : World, Below w.heap.size w wq → w.heap.size ≤ wq.heap.size) := Lib.hid fun wq h => h.size
 have HFL := Lib.hid (fillN_length l 64)
 have HFG := Lib.hid fun i (h : i < 64) => fillN_getD l 64 i h
 obtain ⟨L64, hL64⟩ : ∃ L, L = fillN l 64 := ⟨_, rfl⟩
 rw [← hL64] at HM HFL HFG
 clear hv hlen hL64
 go_enter Tryz.func32, Tryz.ntmps32
 go_wp2_with (first
   | refine wpList_alloc_arr rfl 67 rfl (arrOf 32 fun _ => .int .u8 0) zeroSc ?_
   | (go_at_call 85; refine HF.out.mono ?_; rintro e w1 ⟨rfl, hr1, hb1⟩; rw [World.size_alloc] at hr1
      have k1 := hr.of_block (hb1.block _ hr.lt)
      have B1 := hb0.trans (hb1.mono hb0.size)
      have hBs := Bs.of_part2 (off := 0) (n := 64) hr1 L64 HFL.out (by omega) (by unfold maxLen; omega) fun i hi => by
        rw [← getD_at _ i hi, HFG.out i (by rwa [HFL.out] at hi), Nat.zero_add]
        rfl
      clear hr hb0 hr1 hb1)
   | (go_at_call 84; refine (refTurned_any _ L64 _ hBs (by rw [HFL.out]; omega)).mono ?_; rintro e w2 ⟨v2, rfl, hO, hb2⟩
      have k2 := k1.of_block (hb2.block _ k1.lt)
      have B2 := B1.trans (hb2.mono (HGS.out _ B1))
      have hB2 := hO.bs
      clear k1 B1 hO hb2 hBs)
   | (go_at_call 83; refine (HM.out _ _ hB2).mono ?_; rintro e w3 ⟨rfl, hb3⟩
      have k3 := k2.of_block (hb3.block _ k2.lt)
      have B3 := B2.trans (hb3.mono (HGS.out _ B2))
      clear k2 B2 hB2 hb3)
   | (refine wpList_store_arr rfl 67 (.tmp 2) (.tmp 6) rfl 32 arrSc k3 rfl rfl (by omega) (fun _ _ => rfl) ?_; intro w4 hr4 hg4 hs4))
 refine ret_cell_arr rfl arrSc hr4 rfl (by omega) rfl ⟨?_, B3.grown hg4 (HGS.out _ B3) (by intro k hk; cases hk; exact Nat.le_refl _)⟩
 refine congrArg (fun x => Ending.returned (.agg x)) (arrOf_congr fun i hi => ?_)
 unfold putN
 rw [if_pos (by omega), Nat.zero_add, Nat.sub_zero]


def bitZ (V : Nat) (k : Int) : Nat := if 0 ≤ k ∧ k ≤ 255 then V / 2 ^ k.toNat % 2 else 0
set_option maxHeartbeats 1000000 in
theorem refScBit_any (V : Nat) (k : Int) (w : World) (hk0 : -9223372036854775808 ≤ k) (hk1 : k ≤ 9223372036854775807) : Calls Tryz.prog 82 #[.agg (arrOf 32 (bF 32 V)), .int .i64 k] w fun e w' => e = .returned (.int .i64 (bitZ V k : Nat)) ∧ Below w.heap.size w w' := by
 have hr := rowIs_arr w 32 (bF 32 V) 67
 have hb0 := (Below.refl w.heap.size w).alloc (Nat.le_refl _) (.cells (arrOf 32 (bF 32 V)) 67)
 by_cases h0 : 0 ≤ k
 · by_cases h1 : k ≤ 255
   · obtain ⟨n, rfl⟩ := Int.eq_ofNat_of_zero_le h0
     have hbz : bitZ V (n : Int) = V / 2 ^ n % 2 := by unfold bitZ; rw [if_pos ⟨h0, h1⟩]; rfl
     have hbt := bit_at V n
     obtain ⟨q, hq⟩ := nat_var (n / 8)
     obtain ⟨r, hr8⟩ := nat_var (n % 8)
     rw [← hq, ← hr8] at hbt
     have hc : (w.alloc (.cells (arrOf 32 (bF 32 V)) 67)).cell? ⟨w.heap.size, 31 - q, none⟩ = some (.int .u8 ((byteN V q : Nat) : Int)) := by
       rw [hr.cell (i := 31 - q) (by omega)]
       unfold bF
       rw [show 32 - 1 - (31 - q) = q by omega]
     obtain ⟨x, hx⟩ := nat_var (byteN V q)
     have hxl : x < 256 := by rw [hx]; exact byteN_lt V q
     rw [← hx] at hc hbt
     obtain ⟨y, hy⟩ := nat_var (x / 2 ^ r)
     have hyl : y < 256 := by rw [hy]; exact Nat.lt_of_le_of_lt (Nat.div_le_self _ _) hxl
     rw [← hy] at hbt
     obtain ⟨b, hb⟩ := nat_var (y % 2)
     rw [← hb] at hbt
     obtain ⟨j, hj⟩ := nat_var (31 - q)
     rw [← hj] at hc
     have hwj : IntKind.i64.wrap (31 - (q : Int)) = (j : Int) := by rw [IntWalk.i64_in _ (by omega)]; omega
     have hjI : 0 ≤ (j : Int) ∧ (j : Int) < 32 := by omega
     have hwb : IntKind.i64.wrap (b : Int) = (b : Int) := IntWalk.i64_in _ (by omega)
     have hn0 : ¬ (n : Int) < 0 := by omega
     have hn255 : ¬ (n : Int) > 255 := by omega
     have HQ := Lib.hid hq
     have HR := Lib.hid hr8
     have HNN : Hid (n < 1000) := Lib.hid (by omega)
     have HY := Lib.hid hy
     have HRL : Hid (r < 8) := Lib.hid (by omega)
     have HXL := Lib.hid hxl
     have HB := Lib.hid hb
     have HYL := Lib.hid hyl
     rw [hbz, ← hbt]
     clear hbz hbt hq hr8 hx hxl hy hyl hb hj h0 h1 hk0 hk1 hr
     go_enter Tryz.func82, Tryz.ntmps82
     go_wp2_with (first
       | refine wpList_quo8 rfl (.tmp 11) (.const (.int .i64 8)) rfl rfl rfl HQ.out HNN.out ?_
       | refine wpList_rem8 rfl (.tmp 16) (.const (.int .i64 8)) rfl rfl rfl HR.out HNN.out ?_
       | refine wpList_shr8 rfl (.tmp 15) (.tmp 17) rfl rfl rfl HY.out HRL.out HXL.out ?_
       | refine wpList_and1 rfl (.tmp 18) (.const (.int .u8 1)) rfl rfl rfl HB.out HYL.out ?_)
     go_ret
     exact ⟨rfl, hb0⟩
   · have hbz : bitZ V k = 0 := by unfold bitZ; rw [if_neg (fun h => h1 h.2)]
     rw [hbz]
     have hn0 : ¬ k < 0 := by omega
     have hn255 : k > 255 := by omega
     clear h0 h1 hbz hr
     go_enter Tryz.func82, Tryz.ntmps82
     go_wp2
     go_ret
     exact ⟨rfl, hb0⟩
 · have hbz : bitZ V k = 0 := by unfold bitZ; rw [if_neg (fun h => h0 h.1)]
   rw [hbz]
   have hn0 : k < 0 := by omega
   clear h0 hbz hr
   go_enter Tryz.func82, Tryz.ntmps82
   go_wp2
   go_ret
   exact ⟨rfl, hb0⟩
theorem pmulS_lt (d : Nat) (a : Nat × Nat × Nat) (K : Nat) : ∀ i, (pmulS d a K i).1 < p25 ∧ (pmulS d a K i).2.1 < p25 ∧ (pmulS d a K i).2.2 < p25
 | 0 => ⟨p25_pos, Nat.lt_trans (Nat.lt_succ_self 1) p25_two, Nat.lt_trans (Nat.lt_succ_self 1) p25_two⟩
 | i + 1 => by
   unfold pmulS
   split
   · exact padd_lt _ _ _
   · exact padd_lt _ _ _
theorem pmulS_one {d : Nat} {a : Nat × Nat × Nat} {K i : Nat} {x y z x1 y1 z1 x2 y2 z2 : Nat} (h : pmulS d a K i = (x, y, z)) (h1 : padd d (x, y, z) (x, y, z) = (x1, y1, z1)) (h2 : padd d (x1, y1, z1) a = (x2, y2, z2)) (hb : K / 2 ^ (255 - i) % 2 = 1) : pmulS d a K (i + 1) = (x2, y2, z2) := by
 unfold pmulS
 rw [if_pos hb, h, h1, h2]
theorem pmulS_nil {d : Nat} {a : Nat × Nat × Nat} {K i : Nat} {x y z x1 y1 z1 : Nat} (h : pmulS d a K i = (x, y, z)) (h1 : padd d (x, y, z) (x, y, z) = (x1, y1, z1)) (hb : K / 2 ^ (255 - i) % 2 = 0) : pmulS d a K (i + 1) = (x1, y1, z1) := by
 unfold pmulS
 rw [if_neg (by omega), h, h1]
set_option maxHeartbeats 4000000 in
set_option maxRecDepth 10000 in
theorem refMultPt_any (X Y Z V : Nat) (w : World) (HX : X < p25) (HY : Y < p25) (HZ : Z < p25) : Calls Tryz.prog 31 #[.agg (arrOf 48 (ptF X Y Z)), .agg (arrOf 32 (bF 32 V))] w fun e w' => e = .returned (.agg (arrOf 48 (ptF (pmul dP (X, Y, Z) V).1 (pmul dP (X, Y, Z) V).2.1 (pmul dP (X, Y, Z) V).2.2))) ∧ Below w.heap.size w w' := by
 have Bw0 := Below.refl w.heap.size w
 have HGS : Hid (∀ wq : World, Below w.heap.size w wq → w.heap.size ≤ wq.heap.size) := Lib.hid fun wq h => h.size
 replace HX := Lib.hid HX
 replace HY := Lib.hid HY
 replace HZ := Lib.hid HZ
 go_enter Tryz.func31, Tryz.ntmps31
 go_wp2_with (first
   | (have hgo := Bw0; clear hgo
      refine wpList_box_row rfl 63 (.tmp 0) rfl 48 (ptF X Y Z) rfl ?_
      intro b_t2 w1 lk r_t2 kk
      have l_t2 := zrl HGS Bw0 lk
      have Bw1 := zbt HGS Bw0 kk
      clear Bw0 kk lk)
   | (have hgo := Bw1; clear hgo
      refine wpList_box_row rfl 67 (.tmp 1) rfl 32 (bF 32 V) rfl ?_
      intro b_t3 w2 lk r_t3 kk
      have n_t2_t3 := zrn r_t2 lk
      have l_t3 := zrl HGS Bw1 lk
      replace r_t2 := zrb r_t2 kk
      have Bw2 := zbt HGS Bw1 kk
      clear Bw1 kk lk)
   | (have hgo := Bw2; clear hgo
      refine wpList_alloc_row rfl 63 rfl 48 (u64f fun _ => 0) zeroPt ?_
      intro b_t4 w3 lk r_t4 kk
      have n_t2_t4 := zrn r_t2 lk
      have n_t3_t4 := zrn r_t3 lk
      have l_t4 := zrl HGS Bw2 lk
      replace r_t2 := zrb r_t2 kk
      replace r_t3 := zrb r_t3 kk
      have Bw3 := zbt HGS Bw2 kk
      clear Bw2 kk lk)
   | (have hgo := Bw3; clear hgo
      go_at_call 79
      refine (curve_any _).mono ?_
      rintro e w4 ⟨rfl, kk⟩
      replace r_t2 := zrb r_t2 kk
      replace r_t3 := zrb r_t3 kk
      replace r_t4 := zrb r_t4 kk
      have Bw4 := zbt HGS Bw3 kk
      clear Bw3 kk)
   | (have hgo := Bw4; clear hgo
      refine wpList_alloc_row rfl 61 rfl 16 (u64f fun _ => 0) zeroFe ?_
      intro b_t5 w5 lk r_t5 kk
      have n_t2_t5 := zrn r_t2 lk
      have n_t3_t5 := zrn r_t3 lk
      have n_t4_t5 := zrn r_t4 lk
      have l_t5 := zrl HGS Bw4 lk
      replace r_t2 := zrb r_t2 kk
      replace r_t3 := zrb r_t3 kk
      replace r_t4 := zrb r_t4 kk
      have Bw5 := zbt HGS Bw4 kk
      clear Bw4 kk lk)
   | (have hgo := Bw5; clear hgo
      refine wpList_store_as rfl 61 (.tmp 5) (.tmp 8) rfl 16 (feF dP) arrFe r_t5 rfl rfl (by omega) (fun _ _ => rfl) (fun i hi => putN_whole hi) ?_
      intro w6 q gk
      replace r_t2 := gb_rowIs r_t2 gk n_t2_t5
      replace r_t3 := gb_rowIs r_t3 gk n_t3_t5
      replace r_t4 := gb_rowIs r_t4 gk n_t4_t5
      replace r_t5 := q
      have Bw6 := zbg HGS Bw5 gk l_t5
      clear Bw5 gk q)
   | (have hgo := Bw6; clear hgo
      go_at_call 80
      refine (refZero_any _).mono ?_
      rintro e w7 ⟨rfl, kk⟩
      replace r_t2 := zrb r_t2 kk
      replace r_t3 := zrb r_t3 kk
      replace r_t4 := zrb r_t4 kk
      replace r_t5 := zrb r_t5 kk
      have Bw7 := zbt HGS Bw6 kk
      clear Bw6 kk)
   | (have hgo := Bw7; clear hgo
      refine wpList_alloc_row rfl 63 rfl 48 (u64f fun _ => 0) zeroPt ?_
      intro b_t6 w8 lk r_t6 kk
      have n_t2_t6 := zrn r_t2 lk
      have n_t3_t6 := zrn r_t3 lk
      have n_t4_t6 := zrn r_t4 lk
      have n_t5_t6 := zrn r_t5 lk
      have l_t6 := zrl HGS Bw7 lk
      replace r_t2 := zrb r_t2 kk
      replace r_t3 := zrb r_t3 kk
      replace r_t4 := zrb r_t4 kk
      replace r_t5 := zrb r_t5 kk
      have Bw8 := zbt HGS Bw7 kk
      clear Bw7 kk lk)
   | (have hgo := Bw8; clear hgo
      refine wpList_store_as rfl 63 (.tmp 6) (.tmp 9) rfl 48 (ptF 0 1 1) arrP r_t6 rfl rfl (by omega) (fun j _ => ptF_one _ _ _ j) (fun i hi => putN_whole hi) ?_
      intro w9 q gk
      replace r_t2 := gb_rowIs r_t2 gk n_t2_t6
      replace r_t3 := gb_rowIs r_t3 gk n_t3_t6
      replace r_t4 := gb_rowIs r_t4 gk n_t4_t6
      replace r_t5 := gb_rowIs r_t5 gk n_t5_t6
      replace r_t6 := q
      have Bw9 := zbg HGS Bw8 gk l_t6
      clear Bw8 gk q))
 go_loopw [7] (fun tv wr => ∃ i x y z : Nat, i ≤ 256 ∧ pmulS dP (X, Y, Z) V i = (x, y, z) ∧ tv = .int .i64 (255 - (i : Int)) ∧ wr.rowIs b_t6 63 48 (ptF x y z) ∧ wr.rowIs b_t2 63 48 (ptF X Y Z) ∧ wr.rowIs b_t3 67 32 (bF 32 V) ∧ wr.rowIs b_t4 63 48 (u64f fun _ => 0) ∧ wr.rowIs b_t5 61 16 (feF dP) ∧ Below w.heap.size w wr) (fun tv _ => ((intOf tv) + 1).toNat)
 case atStart =>
   exact ⟨0, 0, 1, 1, Nat.zero_le _, rfl, rfl, r_t6, r_t2, r_t3, r_t4, r_t5, Bw9⟩
 case round =>
 clear r_t6 r_t2 r_t3 r_t4 r_t5 Bw9
 obtain ⟨i, x, y, z, hi, hcl, rfl, r_t6, r_t2, r_t3, r_t4, r_t5, B⟩ := hrel
 have hlt := pmulS_lt dP (X, Y, Z) V i
 rw [hcl] at hlt
 obtain ⟨hl1, hl2, hl3⟩ := hlt
 have Hx := Lib.hid hl1
 have Hy := Lib.hid hl2
 have Hz := Lib.hid hl3
 replace hcl := Lib.hid hcl
 clear hl1 hl2 hl3
 by_cases h256 : i < 256
 · obtain ⟨tt, htt⟩ := nat_var (255 - i)
   have htI : 255 - (i : Int) = (tt : Int) := by omega
   rw [htI]
   have HTI := Lib.hid (show (tt : Int) = 255 - (i : Int) from htI.symm)
   have ht0 : 0 ≤ (tt : Int) := by omega
   have htn : IntKind.i64.wrap ((tt : Int) - 1) = (tt : Int) - 1 := IntWalk.i64_in _ (by omega)
   have hbz : bitZ V (tt : Int) = V / 2 ^ tt % 2 := by
     unfold bitZ
     rw [if_pos ⟨by omega, by omega⟩, Int.toNat_natCast]
   have hbit := fun w => refScBit_any V (tt : Int) w (by omega) (by omega)
   rw [hbz] at hbit
   obtain ⟨b, hb⟩ := nat_var (V / 2 ^ tt % 2)
   have hb2 : b < 2 := by rw [hb]; exact Nat.mod_lt _ (by decide)
   rw [← hb] at hbit
   have HBIT := Lib.hid hbit
   have HBI : Hid (V / 2 ^ (255 - i) % 2 = b) := Lib.hid (by rw [← htt, hb])
   rcases hA1 : padd dP (x, y, z) (x, y, z) with ⟨x1, y1, z1⟩
   obtain ⟨hx1, hy1, hz1⟩ := padd_vlt hA1
   have Hx1 := Lib.hid hx1
   have Hy1 := Lib.hid hy1
   have Hz1 := Lib.hid hz1
   replace hA1 := Lib.hid hA1
   clear hx1 hy1 hz1 hbit hbz hb htt htI
   rcases (show b = 0 ∨ b = 1 by omega) with rfl | rfl
   · have Bw0 := B
     clear B
     go_wp2_with (first
       | (have hgo := Bw0; clear hgo
          refine wpList_load_as rfl 63 (.tmp 6) rfl 48 (ptF x y z) arrP r_t6 rfl (by omega) (fun i hi => by rw [Nat.zero_add]) ?_
          have Bw1 := Bw0
          clear Bw0)
       | (have hgo := Bw1; clear hgo
          refine wpList_load_as rfl 63 (.tmp 6) rfl 48 (ptF x y z) arrP r_t6 rfl (by omega) (fun i hi => by rw [Nat.zero_add]) ?_
          have Bw2 := Bw1
          clear Bw1)
       | (have hgo := Bw2; clear hgo
          refine wpList_load_as rfl 61 (.tmp 5) rfl 16 (feF dP) arrFe r_t5 rfl (by omega) (fun i hi => by rw [Nat.zero_add]) ?_
          have Bw3 := Bw2
          clear Bw2)
       | (have hgo := Bw3; clear hgo
          go_at_call 81
          refine (refPadd_v dP x y z x y z _ hA1.out dP_lt Hx.out Hy.out Hz.out Hx.out Hy.out Hz.out).mono ?_
          rintro e w13 ⟨rfl, kk⟩
          replace r_t6 := zrb r_t6 kk
          replace r_t2 := zrb r_t2 kk
          replace r_t3 := zrb r_t3 kk
          replace r_t4 := zrb r_t4 kk
          replace r_t5 := zrb r_t5 kk
          have Bw4 := zbt HGS Bw3 kk
          clear Bw3 kk)
       | (have hgo := Bw4; clear hgo
          refine wpList_store_as rfl 63 (.tmp 6) (.tmp 17) rfl 48 (ptF x1 y1 z1) arrP r_t6 rfl rfl (by omega) (fun j _ => ptF_one _ _ _ j) (fun i hi => putN_whole hi) ?_
          intro w14 q gk
          replace r_t2 := gb_rowIs r_t2 gk n_t2_t6
          replace r_t3 := gb_rowIs r_t3 gk n_t3_t6
          replace r_t4 := gb_rowIs r_t4 gk n_t4_t6
          replace r_t5 := gb_rowIs r_t5 gk n_t5_t6
          replace r_t6 := q
          have Bw5 := zbg HGS Bw4 gk l_t6
          clear Bw4 gk q)
       | (have hgo := Bw5; clear hgo
          refine wpList_load_as rfl 67 (.tmp 3) rfl 32 (bF 32 V) arrSc r_t3 rfl (by omega) (fun i hi => by rw [Nat.zero_add]) ?_
          have Bw6 := Bw5
          clear Bw5)
       | (have hgo := Bw6; clear hgo
          go_at_call 82
          refine (HBIT.out _).mono ?_
          rintro e w17 ⟨rfl, kk⟩
          replace r_t6 := zrb r_t6 kk
          replace r_t2 := zrb r_t2 kk
          replace r_t3 := zrb r_t3 kk
          replace r_t4 := zrb r_t4 kk
          replace r_t5 := zrb r_t5 kk
          have Bw7 := zbt HGS Bw6 kk
          clear Bw6 kk))
     go_roundw
     case rel =>
       exact ⟨i + 1, _, _, _, by omega, pmulS_nil hcl.out hA1.out HBI.out, by rw [HTI.out]; go_num, r_t6, r_t2, r_t3, r_t4, r_t5, Bw7⟩
     case measure => (simp [intOf]; try omega)
   · have Bw0 := B
     clear B
     rcases hA2 : padd dP (x1, y1, z1) (X, Y, Z) with ⟨x2, y2, z2⟩
     replace hA2 := Lib.hid hA2
     go_wp2_with (first
       | (have hgo := Bw0; clear hgo
          refine wpList_load_as rfl 63 (.tmp 6) rfl 48 (ptF x y z) arrP r_t6 rfl (by omega) (fun i hi => by rw [Nat.zero_add]) ?_
          have Bw1 := Bw0
          clear Bw0)
       | (have hgo := Bw1; clear hgo
          refine wpList_load_as rfl 63 (.tmp 6) rfl 48 (ptF x y z) arrP r_t6 rfl (by omega) (fun i hi => by rw [Nat.zero_add]) ?_
          have Bw2 := Bw1
          clear Bw1)
       | (have hgo := Bw2; clear hgo
          refine wpList_load_as rfl 61 (.tmp 5) rfl 16 (feF dP) arrFe r_t5 rfl (by omega) (fun i hi => by rw [Nat.zero_add]) ?_
          have Bw3 := Bw2
          clear Bw2)
       | (have hgo := Bw3; clear hgo
          go_at_call 81
          refine (refPadd_v dP x y z x y z _ hA1.out dP_lt Hx.out Hy.out Hz.out Hx.out Hy.out Hz.out).mono ?_
          rintro e w13 ⟨rfl, kk⟩
          replace r_t6 := zrb r_t6 kk
          replace r_t2 := zrb r_t2 kk
          replace r_t3 := zrb r_t3 kk
          replace r_t4 := zrb r_t4 kk
          replace r_t5 := zrb r_t5 kk
          have Bw4 := zbt HGS Bw3 kk
          clear Bw3 kk)
       | (have hgo := Bw4; clear hgo
          refine wpList_store_as rfl 63 (.tmp 6) (.tmp 17) rfl 48 (ptF x1 y1 z1) arrP r_t6 rfl rfl (by omega) (fun j _ => ptF_one _ _ _ j) (fun i hi => putN_whole hi) ?_
          intro w14 q gk
          replace r_t2 := gb_rowIs r_t2 gk n_t2_t6
          replace r_t3 := gb_rowIs r_t3 gk n_t3_t6
          replace r_t4 := gb_rowIs r_t4 gk n_t4_t6
          replace r_t5 := gb_rowIs r_t5 gk n_t5_t6
          replace r_t6 := q
          have Bw5 := zbg HGS Bw4 gk l_t6
          clear Bw4 gk q)
       | (have hgo := Bw5; clear hgo
          refine wpList_load_as rfl 67 (.tmp 3) rfl 32 (bF 32 V) arrSc r_t3 rfl (by omega) (fun i hi => by rw [Nat.zero_add]) ?_
          have Bw6 := Bw5
          clear Bw5)
       | (have hgo := Bw6; clear hgo
          go_at_call 82
          refine (HBIT.out _).mono ?_
          rintro e w17 ⟨rfl, kk⟩
          replace r_t6 := zrb r_t6 kk
          replace r_t2 := zrb r_t2 kk
          replace r_t3 := zrb r_t3 kk
          replace r_t4 := zrb r_t4 kk
          replace r_t5 := zrb r_t5 kk
          have Bw7 := zbt HGS Bw6 kk
          clear Bw6 kk)
       | (have hgo := Bw7; clear hgo
          refine wpList_load_as rfl 63 (.tmp 6) rfl 48 (ptF x1 y1 z1) arrP r_t6 rfl (by omega) (fun i hi => by rw [Nat.zero_add]) ?_
          have Bw8 := Bw7
          clear Bw7)
       | (have hgo := Bw8; clear hgo
          refine wpList_load_as rfl 63 (.tmp 2) rfl 48 (ptF X Y Z) arrP r_t2 rfl (by omega) (fun i hi => by rw [Nat.zero_add]) ?_
          have Bw9 := Bw8
          clear Bw8)
       | (have hgo := Bw9; clear hgo
          refine wpList_load_as rfl 61 (.tmp 5) rfl 16 (feF dP) arrFe r_t5 rfl (by omega) (fun i hi => by rw [Nat.zero_add]) ?_
          have Bw10 := Bw9
          clear Bw9)
       | (have hgo := Bw10; clear hgo
          go_at_call 81
          refine (refPadd_v dP x1 y1 z1 X Y Z _ hA2.out dP_lt Hx1.out Hy1.out Hz1.out HX.out HY.out HZ.out).mono ?_
          rintro e w22 ⟨rfl, kk⟩
          replace r_t6 := zrb r_t6 kk
          replace r_t2 := zrb r_t2 kk
          replace r_t3 := zrb r_t3 kk
          replace r_t4 := zrb r_t4 kk
          replace r_t5 := zrb r_t5 kk
          have Bw11 := zbt HGS Bw10 kk
          clear Bw10 kk)
       | (have hgo := Bw11; clear hgo
          refine wpList_store_as rfl 63 (.tmp 6) (.tmp 25) rfl 48 (ptF x2 y2 z2) arrP r_t6 rfl rfl (by omega) (fun j _ => ptF_one _ _ _ j) (fun i hi => putN_whole hi) ?_
          intro w23 q gk
          replace r_t2 := gb_rowIs r_t2 gk n_t2_t6
          replace r_t3 := gb_rowIs r_t3 gk n_t3_t6
          replace r_t4 := gb_rowIs r_t4 gk n_t4_t6
          replace r_t5 := gb_rowIs r_t5 gk n_t5_t6
          replace r_t6 := q
          have Bw12 := zbg HGS Bw11 gk l_t6
          clear Bw11 gk q))
     go_roundw
     case rel =>
       exact ⟨i + 1, _, _, _, by omega, pmulS_one hcl.out hA1.out hA2.out HBI.out, by rw [HTI.out]; go_num, r_t6, r_t2, r_t3, r_t4, r_t5, Bw12⟩
     case measure => (simp [intOf]; try omega)
 · obtain rfl : i = 256 := by omega
   have Bw0 := B
   clear B
   have HE : Hid (pmul dP (X, Y, Z) V = (x, y, z)) := hcl
   go_wp2_with (first
     | (have hgo := Bw0; clear hgo
        refine wpList_load_as rfl 63 (.tmp 6) rfl 48 (ptF x y z) arrP r_t6 rfl (by omega) (fun i hi => by rw [Nat.zero_add]) ?_
        have Bw1 := Bw0
        clear Bw0)
     | (have hgo := Bw1; clear hgo
        refine wpList_store_as rfl 63 (.tmp 4) (.tmp 26) rfl 48 (ptF x y z) arrP r_t4 rfl rfl (by omega) (fun j _ => ptF_one _ _ _ j) (fun i hi => putN_whole hi) ?_
        intro w502 q gk
        replace r_t6 := gb_rowIs r_t6 gk (Ne.symm n_t4_t6)
        replace r_t2 := gb_rowIs r_t2 gk n_t2_t4
        replace r_t3 := gb_rowIs r_t3 gk n_t3_t4
        replace r_t5 := gb_rowIs r_t5 gk (Ne.symm n_t4_t5)
        replace r_t4 := q
        have Bw2 := zbg HGS Bw1 gk l_t4
        clear Bw1 gk q))
   exact ret_cell_as _ rfl arrP r_t4 rfl (by omega) (fun _ _ => rfl) rfl ⟨by rw [HE.out], Bw2⟩
def encA (a : Nat × Nat × Nat) : Nat := mulP a.2.1 (invP a.2.2) + mulP a.1 (invP a.2.2) % 2 * top
theorem encA_aff {P : Nat × Nat} (hP : onE P) {a : Nat × Nat × Nat} (ha : a.2.2 < p25) (h : RepN P a) : encA a = encN P := by
 obtain ⟨h1, h2⟩ := repN_aff hP ha h
 unfold encA encN
 rw [h1, h2]
def decP (l : List UInt8) : Nat × Nat := (decN l).getD (0, 1)
def decE (l : List UInt8) : Int := if (decN l).isSome then 0 else 12
theorem refDecode_any (v : Value) (l : List UInt8) (w : World) (h : Bs w v l) : Calls Tryz.prog 44 #[v] w fun e w' => e = .returned (.tuple #[.agg (arrOf 48 (ptF (decP l).1 (decP l).2 1)), .int .i64 (decE l)]) ∧ Below w.heap.size w w' := by
 by_cases hl : l.length = 32
 · by_cases hY : numL l 32 % top < p25
   · cases hx : decX (numL l 32 % top) with
     | none =>
       have e : decN l = none := by unfold decN; rw [if_pos ⟨hl, hY⟩, hx]; rfl
       unfold decP decE
       rw [e]
       exact refDecode_3 v l w h hl hY hx
     | some x =>
       have hs : numL l 32 / top < 2 := by
         rw [(numL_cut l hl).2]
         exact Nat.div_lt_of_lt_mul (UInt8.toNat_lt _)
       by_cases ho : numL l 32 / top = 1
       · by_cases hx0 : x = 0
         · have e : decN l = none := by unfold decN; rw [if_pos ⟨hl, hY⟩, hx, Option.bind_some, if_pos ⟨ho, hx0⟩]
           unfold decP decE
           rw [e]
           exact refDecode_4 v l w h hl hY x hx ho hx0
         · have e : decN l = some (oppP x, numL l 32 % top) := by unfold decN; rw [if_pos ⟨hl, hY⟩, hx, Option.bind_some, if_neg (fun k => hx0 k.2), if_pos ho]
           unfold decP decE
           rw [e]
           exact refDecode_7 v l w h hl hY x hx ho hx0
       · have ho0 : numL l 32 / top = 0 := (show ∀ s : Nat, s < 2 → s ≠ 1 → s = 0 by omega) _ hs ho
         have e : decN l = some (x, numL l 32 % top) := by unfold decN; rw [if_pos ⟨hl, hY⟩, hx, Option.bind_some, if_neg (fun k => ho k.1), if_neg ho]
         unfold decP decE
         rw [e]
         by_cases hx0 : x = 0
         · exact refDecode_5 v l w h hl hY x hx ho0 hx0
         · exact refDecode_6 v l w h hl hY x hx ho0 hx0
   · have e : decN l = none := by unfold decN; rw [if_neg (fun k => hY k.2)]
     unfold decP decE
     rw [e]
     exact refDecode_2 v l w h hl hY
 · have e : decN l = none := by unfold decN; rw [if_neg (fun k => hl k.1)]
   unfold decP decE
   rw [e]
   exact refDecode_1 v l w h hl
theorem base_y : mulP 4 (invP 5) = ptB.2 := by
 refine Z.eq (mulP_lt _ _) ptB_on.2.1 ?_
 have h5 : ¬ Z (5 : Int) := small_ne 5 (by decide) (by decide)
 have h1 := Z_mulP 4 (invP 5)
 have h2 : Z ((5 : Int) * ((invP 5 : Nat) : Int) - 1) := Z_invP (a := 5) (by decide +kernel) h5
 have h3 : Z ((5 : Int) * (ptB.2 : Int) - 4) := Int.dvd_of_emod_eq_zero (by decide +kernel)
 refine Z.cancel (a := 5) ?_ h5
 generalize ((mulP 4 (invP 5) : Nat) : Int) = m at *
 generalize ((invP 5 : Nat) : Int) = i at *
 generalize ((ptB.2 : Nat) : Int) = y at *
 exact Z.lin3 5 4 (-1) h1 h2 h3 (by grind)
theorem base_ref (v : Value) (w : World) (h : Bs w v (litB ptB.2 32)) : Calls Tryz.prog 44 #[v] w fun e w' => e = .returned (.tuple #[.agg (arrOf 48 (ptF ptB.1 ptB.2 1)), .int .i64 0]) ∧ Below w.heap.size w w' := by
 have hlt := Nat.lt_trans ptB_on.2.1 p25_ltop
 have hn : numL (litB ptB.2 32) 32 = ptB.2 := numL_lit _ (Nat.lt_trans hlt (by decide +kernel))
 have hY : numL (litB ptB.2 32) 32 % top = ptB.2 := by rw [hn, Nat.mod_eq_of_lt hlt]
 have ho : numL (litB ptB.2 32) 32 / top = 0 := by rw [hn, Nat.div_eq_of_lt hlt]
 obtain ⟨r, hr, hx, h2, _⟩ := decX_of (x := ptB.1) (Y := ptB.2) ptB_on
 have hrx : r = ptB.1 := by
   rcases hx with e | e
   · exact e
   · exfalso
     rw [e] at h2
     exact absurd h2 (by decide +kernel)
 subst hrx
 have g := refDecode_6 v _ w h (litB_length _ _) (by rw [hY]; exact ptB_on.2.1) ptB.1 (by rw [hY]; exact hr) ho (by decide +kernel)
 rw [hY] at g
 exact g
set_option maxHeartbeats 4000000 in
set_option maxRecDepth 10000 in
theorem refBase_any (w : World) : Calls Tryz.prog 30 #[] w fun e w' => e = .returned (.agg (arrOf 48 (ptF ptB.1 ptB.2 1))) ∧ Below w.heap.size w w' := by
 have hby := base_y
 have hbl : ptB.2 < p25 := ptB_on.2.1
 have HD := Lib.hid fun v w h => base_ref v w h
 obtain ⟨BX, hBX⟩ := nat_var ptB.1
 obtain ⟨BY, hBY⟩ := nat_var ptB.2
 rw [← hBX, ← hBY] at HD
 rw [← hBY] at hby hbl
 have HBY := Lib.hid hbl
 have HM := Lib.hid fun w => refMul5_any 4 (invP 5) w (by decide +kernel) (invP_lt _)
 rw [hby] at HM
 rw [← hBX, ← hBY]
 clear hBX hBY hby hbl
 have Bw0 := Below.refl w.heap.size w
 have HGS : Hid (∀ wq : World, Below w.heap.size w wq → w.heap.size ≤ wq.heap.size) := Lib.hid fun wq h => h.size
 go_enter Tryz.func30, Tryz.ntmps30
 go_wp2_with (first
   | (have hgo := Bw0; clear hgo
      refine wpList_alloc_row rfl 63 rfl 48 (u64f fun _ => 0) zeroPt ?_
      intro b_t0 w1 lk r_t0 kk
      have l_t0 := zrl HGS Bw0 lk
      have Bw1 := zbt HGS Bw0 kk
      clear Bw0 kk lk)
   | (have hgo := Bw1; clear hgo
      go_at_call 75
      refine (refSmall_any 4 _ (by decide)).mono ?_
      rintro e w2 ⟨rfl, kk⟩
      replace r_t0 := zrb r_t0 kk
      have Bw2 := zbt HGS Bw1 kk
      clear Bw1 kk)
   | (have hgo := Bw2; clear hgo
      go_at_call 75
      refine (refSmall_any 5 _ (by decide)).mono ?_
      rintro e w3 ⟨rfl, kk⟩
      replace r_t0 := zrb r_t0 kk
      have Bw3 := zbt HGS Bw2 kk
      clear Bw2 kk)
   | (have hgo := Bw3; clear hgo
      go_at_call 77
      refine (refInv5_any 5 _ (by decide +kernel)).mono ?_
      rintro e w4 ⟨rfl, kk⟩
      replace r_t0 := zrb r_t0 kk
      have Bw4 := zbt HGS Bw3 kk
      clear Bw3 kk)
   | (have hgo := Bw4; clear hgo
      go_at_call 76
      refine (HM.out _).mono ?_
      rintro e w5 ⟨rfl, kk⟩
      replace r_t0 := zrb r_t0 kk
      have Bw5 := zbt HGS Bw4 kk
      clear Bw4 kk)
   | (have hgo := Bw5; clear hgo
      refine wpList_alloc_row rfl 61 rfl 16 (u64f fun _ => 0) zeroFe ?_
      intro b_t1 w6 lk r_t1 kk
      have n_t0_t1 := zrn r_t0 lk
      have l_t1 := zrl HGS Bw5 lk
      replace r_t0 := zrb r_t0 kk
      have Bw6 := zbt HGS Bw5 kk
      clear Bw5 kk lk)
   | (have hgo := Bw6; clear hgo
      refine wpList_store_as rfl 61 (.tmp 1) (.tmp 7) rfl 16 (feF BY) arrFe r_t1 rfl rfl (by omega) (fun _ _ => rfl) (fun i hi => putN_whole hi) ?_
      intro w7 q gk
      replace r_t0 := gb_rowIs r_t0 gk n_t0_t1
      replace r_t1 := q
      have Bw7 := zbg HGS Bw6 gk l_t1
      clear Bw6 gk q)
   | (have hgo := Bw7; clear hgo
      refine wpList_load_as rfl 61 (.tmp 1) rfl 16 (feF BY) arrFe r_t1 rfl (by omega) (fun i hi => by rw [Nat.zero_add]) ?_
      have Bw8 := Bw7
      clear Bw7)
   | (have hgo := Bw8; clear hgo
      go_at_call 78
      refine (refBytes_any BY _).mono ?_
      rintro e w9 ⟨v_s10, rfl, o_s10, kk⟩
      replace r_t0 := zrb r_t0 kk
      replace r_t1 := zrb r_t1 kk
      have Bw9 := zbt HGS Bw8 kk
      clear Bw8 kk
      have f_s10 := o_s10.bs
      clear o_s10)
   | (have hgo := Bw9; clear hgo
      go_at_call 44
      refine (HD.out _ _ f_s10).mono ?_
      rintro e w10 ⟨rfl, kk⟩
      replace r_t0 := zrb r_t0 kk
      replace r_t1 := zrb r_t1 kk
      replace f_s10 := zfb f_s10 kk
      have Bw10 := zbt HGS Bw9 kk
      clear Bw9 kk)
   | (have hgo := Bw10; clear hgo
      refine wpList_alloc_row rfl 63 rfl 48 (u64f fun _ => 0) zeroPt ?_
      intro b_t2 w14 lk r_t2 kk
      have n_t0_t2 := zrn r_t0 lk
      have n_t1_t2 := zrn r_t1 lk
      have l_t2 := zrl HGS Bw10 lk
      have a_s10_t2 := Bs.away f_s10 lk
      replace r_t0 := zrb r_t0 kk
      replace r_t1 := zrb r_t1 kk
      replace f_s10 := zfb f_s10 kk
      have Bw11 := zbt HGS Bw10 kk
      clear Bw10 kk lk)
   | (have hgo := Bw11; clear hgo
      refine wpList_store_as rfl 63 (.tmp 2) (.tmp 12) rfl 48 (ptF BX BY 1) arrP r_t2 rfl rfl (by omega) (fun j _ => ptF_one _ _ _ j) (fun i hi => putN_whole hi) ?_
      intro w15 q gk
      replace r_t0 := gb_rowIs r_t0 gk n_t0_t2
      replace r_t1 := gb_rowIs r_t1 gk n_t1_t2
      replace r_t2 := q
      have Bw12 := zbg HGS Bw11 gk l_t2
      replace f_s10 := gb_bs f_s10 gk a_s10_t2
      clear Bw11 gk q)
   | (have hgo := Bw12; clear hgo
      refine wpList_load_as rfl 63 (.tmp 2) rfl 48 (ptF BX BY 1) arrP r_t2 rfl (by omega) (fun i hi => by rw [Nat.zero_add]) ?_
      have Bw13 := Bw12
      clear Bw12)
   | (have hgo := Bw13; clear hgo
      refine wpList_store_as rfl 63 (.tmp 0) (.tmp 14) rfl 48 (ptF BX BY 1) arrP r_t0 rfl rfl (by omega) (fun j _ => ptF_one _ _ _ j) (fun i hi => putN_whole hi) ?_
      intro w18 q gk
      replace r_t1 := gb_rowIs r_t1 gk (Ne.symm n_t0_t1)
      replace r_t2 := gb_rowIs r_t2 gk (Ne.symm n_t0_t2)
      replace r_t0 := q
      have Bw14 := zbg HGS Bw13 gk l_t0
      clear f_s10
      clear Bw13 gk q))
 exact ret_cell_as _ rfl arrP r_t0 rfl (by omega) (fun _ _ => rfl) rfl ⟨rfl, Bw14⟩
end Go.Proofs.YtonhpmaiagbheaaGreat
