/- Texts joined: what they are for stands ahead of each. -/
import Derived.Test.YtonhpmaiagbheaaGreatMM2
set_option linter.unusedSimpArgs false
set_option linter.unusedVariables false

/- The program's numbers below p: Sub, Same, Odd, Pick. -/
set_option linter.unusedSimpArgs false
set_option linter.unusedVariables false
namespace Go.Proofs.YtonhpmaiagbheaaGreat
open Go.RowKit Go.Deep

theorem sub_opp (A C : Nat) : addP A (oppP C) = subP p25 A C := by
  rw [oppP_eq]
  rfl
set_option maxHeartbeats 1000000 in
theorem sub_any (A C : Nat) (w : World) (hA : A < p25) (hC : C < p25) : Calls Tryz.prog 94 #[.agg (arrOf 4 (ewF A)), .agg (arrOf 4 (ewF C))] w fun e w' => e = .returned (.agg (arrOf 4 (ewF (subP p25 A C)))) ∧ Below w.heap.size w w' := by
  obtain ⟨w3, hw3, hrA0, hrC0, hrR0, hbel0, hsz⟩ := rowsW3 w (ewF A) (ewF C) 51
  have hrA := hrA0.drew
  have hrC := hrC0.drew
  have hrR := hrR0.drew
  have hbel := hbel0.drew
  have HGS : Hid (∀ wq : World, Below w.heap.size w wq → w.heap.size ≤ wq.heap.size) := Lib.hid fun wq h => h.size
  have l2 : w.heap.size ≤ w.heap.size + 1 + 1 := by omega
  clear hrA0 hrC0 hrR0 hbel0 hsz
  subst hw3
  go_enter Tryz.func94, Tryz.ntmps94
  go_wp2_with (refine wpList_alloc_arr rfl 51 rfl (arrOf 4 (u64f fun _ => 0)) zeroE ?_)
  refine wp_region_lins [(0, some [3, 4]), (1, some [2, 4]), (2, none), (3, none), (4, none)] (fun c w' => (c = 2 → w'.rowIs (w.heap.size + 1) 51 4 (ewF C)) ∧ (c = 3 → w'.rowIs w.heap.size 51 4 (ewF A))) (by kernel_rfl) (by kernel_rfl) (by decide) (by kernel_rfl) (fun d _ _ _ _ h => by cases d <;> exact h) (fun c hc => ⟨fun _ => hrC, fun _ => hrA⟩) ?_
  refine lins_read 5 (Op.load 51 (Operand.tmp 2)) 51 (.agg (arrOf 4 fun i => ewF A (0 + i))) rfl rfl rfl rfl rfl (fun w0 hw0 => by exact exec_load_arr _ _ _ _ rfl arrE ((hw0 3 (by simp)).2 rfl) (by omega)) ?_
  simp only [Act.put, List.setIfInBounds_toArray, List.set_cons_zero, List.set_cons_succ, Nat.zero_add]
  refine lins_read 6 (Op.load 51 (Operand.tmp 3)) 51 (.agg (arrOf 4 fun i => ewF C (0 + i))) rfl rfl rfl rfl rfl (fun w0 hw0 => by exact exec_load_arr _ _ _ _ rfl arrE ((hw0 2 (by simp)).1 rfl) (by omega)) ?_
  simp only [Act.put, List.setIfInBounds_toArray, List.set_cons_zero, List.set_cons_succ, Nat.zero_add]
  refine lins_fn (some 7) 90 #[Operand.tmp 6] #[51] _ (neg_any C _ hC) rfl rfl rfl rfl Tryz.func90 (by kernel_rfl) (by kernel_rfl) (by go_simp) ?_
  rintro e w5 ⟨rfl, hb5⟩
  replace hrA := World.rowIs.of_block hrA (hb5.block _ (World.rowIs.lt hrA))
  replace hrR := World.rowIs.of_block hrR (hb5.block _ (World.rowIs.lt hrR))
  replace hbel := Below.trans hbel (hb5.mono (HGS.out _ hbel))
  refine ⟨_, rfl, fun c w' => c = 3 → w'.rowIs w.heap.size 51 4 (ewF A), fun c hc => ⟨fun _ => hrA, fun w6 h6 => ⟨fun h => by subst h; simp [writers] at hc, h6⟩⟩, ?_⟩
  simp only [Act.put, List.setIfInBounds_toArray, List.set_cons_zero, List.set_cons_succ, Nat.zero_add]
  refine lins_fn (some 8) 93 #[Operand.tmp 5, Operand.tmp 7] #[51, 51] _ (add_any A (oppP C) _ hA (oppP_lt C)) rfl rfl rfl rfl Tryz.func93 (by kernel_rfl) (by kernel_rfl) (by go_simp) ?_
  rintro e w6 ⟨rfl, hb6⟩
  replace hrR := World.rowIs.of_block hrR (hb6.block _ (World.rowIs.lt hrR))
  replace hbel := Below.trans hbel (hb6.mono (HGS.out _ hbel))
  refine ⟨_, rfl, fun _ _ => True, fun c hc => ⟨trivial, fun w7 _ h => by subst h; simp [writers] at hc⟩, ?_⟩
  simp only [Act.put, List.setIfInBounds_toArray, List.set_cons_zero, List.set_cons_succ, Nat.zero_add]
  refine lins_store_arr (k := 4) (off := 0) 51 (.tmp 4) (.tmp 8) rfl rfl rfl rfl hrR rfl rfl arrE (by omega) (fun _ _ => rfl) ?_
  intro w7 hr7 hg7 hs7
  refine ⟨fun _ _ => True, fun c hc => (by cases hc), ?_⟩
  try simp only [Act.put, List.setIfInBounds_toArray, List.set_cons_zero, List.set_cons_succ, Nat.zero_add]
  refine lins_end ?_
  go_wp2
  refine ret_cell_arr rfl arrE hr7 rfl (by omega) rfl ⟨?_, Below.grown hbel hg7 (HGS.out _ hbel) (by intro k hk; cases hk; exact l2)⟩
  rw [agg_putW, sub_opp]

theorem wd_inj {A B : Nat} (hA : A < p25) (hB : B < p25) : (∀ j, j < 4 → ((wd A j : Nat) : Int) = ((wd B j : Nat) : Int)) ↔ A = B := by
  constructor
  · intro h
    have h1 := valW_congr 4 (f := wd A) (g := wd B) (fun j hj => by have := h j hj; omega)
    rwa [wd_all _ (Nat.lt_trans hA p25_B4), wd_all _ (Nat.lt_trans hB p25_B4)] at h1
  · intro h j _; rw [h]
theorem run_part_words (F : Nat → Value) (w : World) : (part 46 (arrOf 4 F) 0).run Tryz.prog w = .ok (.agg (arrOf 4 F)) w := by
  have hg : (isAgg 46).run Tryz.prog w = .ok true w := by
    unfold isAgg
    rw [Sem.run_bind, run_underlying Tryz.underlying46 w]
    simp
  have hi : (Tryz.prog.info? 46).map (fun i => i.size) = some 4 := by kernel_rfl
  cases hq : Tryz.prog.info? 46 with
  | none => simp [hq] at hi
  | some i =>
    have hs : i.size = 4 := by simpa [hq] using hi
    simp [part, hg, sizeOf, typeInfo, hq, hs, Result.andThen]
    right
    rw [arrOf_size]
    exact Nat.le_refl _
set_option maxRecDepth 10000 in
theorem fieldsE : ∃ f : Field, Tryz.prog.fieldsOf 51 = #[f] ∧ f.name ≠ "_" ∧ f.type = 46 ∧ f.offset = 0 := ⟨_, rfl, by decide, rfl, rfl⟩
theorem run_eqE (w : World) (A C : Nat) (hA : A < p25) (hC : C < p25) : (Op.equalIn 10000 51 (.agg (arrOf 4 (ewF A))) (.agg (arrOf 4 (ewF C)))).run Tryz.prog w = .ok (decide (A = C)) w := by
  obtain ⟨f, hf, hn, ht, ho⟩ := fieldsE
  rw [run_equalIn_struct (P := Tryz.prog) w 9999 51 _ _ (by kernel_rfl) (by kernel_rfl), hf]
  have h2 := run_eq_arr2 (P := Tryz.prog) w 9997 46 45 4 .u64 (fun j => ((wd A j : Nat) : Int)) (fun j => ((wd C j : Nat) : Int)) Tryz.underlying46 Tryz.underlying45 (by kernel_rfl)
  have hp1 := run_part_words (ewF A) w
  have hp2 := run_part_words (ewF C) w
  have h3 : (Op.equalIn 9999 46 (.agg (arrOf 4 (ewF A))) (.agg (arrOf 4 (ewF C)))).run Tryz.prog w = .ok (decide (A = C)) w := by
    refine h2.trans ?_
    by_cases e : A = C
    · rw [decide_eq_true e, decide_eq_true ((wd_inj hA hC).2 e)]
    · rw [decide_eq_false e, decide_eq_false (fun h => e ((wd_inj hA hC).1 h))]
  simp only [Op.eqFields, ht, ho, ne_eq, hn, not_false_eq_true, if_true, Sem.run_bind, hp1, hp2, h3, Result.andThen_ok]
  cases decide (A = C) <;> simp
theorem same_any (A C : Nat) (w : World) (hA : A < p25) (hC : C < p25) : Calls Tryz.prog 88 #[.agg (arrOf 4 (ewF A)), .agg (arrOf 4 (ewF C))] w fun e w' => e = .returned (.bool (decide (A = C))) ∧ Below w.heap.size w w' := by
  have hrA := (rowIs_arr w 4 (ewF A) 51).alloc (.cells (arrOf 4 (ewF C)) 51)
  have hrC := rowIs_arr (w.alloc (.cells (arrOf 4 (ewF A)) 51)) 4 (ewF C) 51
  have hbel := ((Below.refl w.heap.size w).alloc (Nat.le_refl _) (.cells (arrOf 4 (ewF A)) 51)).alloc (by simp) (.cells (arrOf 4 (ewF C)) 51)
  have HQ := Lib.hid fun w x y => run_eqGuard_agg (P := Tryz.prog) w .eql 51 x y (arrOf 4 (ewF A)) (arrOf 4 (ewF C)) (by kernel_rfl)
  have HE : Hid (∀ w : World, (binOp .eql 51 (.agg (arrOf 4 (ewF A))) (.agg (arrOf 4 (ewF C)))).run Tryz.prog w = .ok (.bool (decide (A = C))) w) := Lib.hid fun w => by
    rw [run_eql_struct (P := Tryz.prog) w 51 (arrOf 4 (ewF A)) (arrOf 4 (ewF C)), run_eqE w A C hA hC]
    rfl
  rw [World.size_alloc] at hrC
  clear hA hC
  go_enter Tryz.func88, Tryz.ntmps88
  go_wp2_with (first
    | (refine wpList_load_arr rfl 51 (.tmp 2) rfl 4 arrE hrA rfl (by omega) ?_; simp only [Nat.zero_add])
    | (refine wpList_load_arr rfl 51 (.tmp 3) rfl 4 arrE hrC rfl (by omega) ?_; simp only [Nat.zero_add])
    | refine wpList_bin2 rfl .eql 51 51 (.tmp 5) (.tmp 6) rfl (fun w => HQ.out w _ _) (fun w => HE.out w) rfl rfl ?_)
  go_ret
  exact ⟨rfl, hbel⟩
theorem odd_any (A : Nat) (w : World) : Calls Tryz.prog 64 #[.agg (arrOf 4 (ewF A))] w fun e w' => e = .returned (.bool (decide (A % 2 = 1))) ∧ Below w.heap.size w w' := by
  have hrA := rowIs_arr w 4 (ewF A) 51
  have hbel := (Below.refl w.heap.size w).alloc (Nat.le_refl _) (.cells (arrOf 4 (ewF A)) 51)
  have hc0 := hrA.cell (i := 0) (by omega)
  have hm := mask64 (wd A 0) 1 (wd_lt A 0) (by decide) 1 rfl
  have hpar : wd A 0 % 2 ^ 1 = A % 2 := by rw [wd_zero]; omega
  rw [hpar] at hm
  have hc : (w.alloc (.cells (arrOf 4 (ewF A)) 51)).cell? ⟨w.heap.size, 0, none⟩ = some (.int .u64 ((wd A 0 : Nat) : Int)) := hc0
  clear hrA hc0 hpar
  by_cases h : A % 2 = 1
  · rw [decide_eq_true h]
    rw [h] at hm
    generalize wd A 0 = x at *
    clear h
    go_enter Tryz.func64, Tryz.ntmps64
    go_wp2
    go_ret
    exact ⟨rfl, hbel⟩
  · rw [decide_eq_false h]
    rw [show A % 2 = 0 by omega] at hm
    generalize wd A 0 = x at *
    clear h
    go_enter Tryz.func64, Tryz.ntmps64
    go_wp2
    go_ret
    exact ⟨rfl, hbel⟩
end Go.Proofs.YtonhpmaiagbheaaGreat

/- The program's numbers below p: powers, Inv. -/
set_option linter.unusedSimpArgs false
set_option linter.unusedVariables false
namespace Go.Proofs.YtonhpmaiagbheaaGreat
open Go.RowKit Go.Deep

theorem wpList_lesser {ops : Array Oper} {rest : List Oper} {o : Oper} {a : Act} {w : World} {Q : Exit → Act → World → Prop} (hgd : o.guard = none) (x y : Operand) {ts : Array TypeId} (ho : o.op = .call { callee := .builtin .min, args := #[x, y], argTypes := ts }) {k : IntKind} {i j m : Int}
    (hx : a.eval x = .int k i) (hy : a.eval y = .int k j) (hm : m = if j < i then j else i) (h : wpList Tryz.prog ops Q rest (a.put o.dst (.int k m)) w) : wpList Tryz.prog ops Q (o :: rest) a w := by
  refine wpList_value hgd (.int k m) ?_ h
  subst hm
  simp [execOp, ho, resolve, invoke, builtin, hx, hy, run_min_int2, Result.andThen]
set_option maxHeartbeats 4000000 in
theorem often_any (A k c N : Nat) (kv cv : Int) (w : World) (hkv : kv = (k : Int) + 1) (hcv : cv = (c : Int)) (hA : A < p25) (hk0 : 1 ≤ k) (hk1 : k ≤ 1000) (hc0 : 0 < c) (hc1 : c < 18446744073709551616) (hN : N / 2 ^ k = 1)
    (hbit : ∀ i, i < k → (18446744073709551616 - c) / 2 ^ (min i 63) % 2 = N / 2 ^ i % 2) :
    Calls Tryz.prog 109 #[.func (.func 62) #[] #[], .agg (arrOf 4 (ewF A)), .int .i64 kv, .int .u64 cv] w fun e w' => e = .returned (.agg (arrOf 4 (ewF (A ^ N % p25)))) ∧ Below w.heap.size w w' := by
  subst hkv hcv
  obtain ⟨w3, hw3, hrA, hrR, hrX, hbel, hsz⟩ := rowsW3 w (ewF A) (u64f fun _ => 0) 51
  have hrA0 := (rowIs_arr w 4 (ewF A) 51).alloc (.cells (arrOf 4 (u64f fun _ => 0)) 51)
  have HBIT := Lib.hid hbit
  have HA := Lib.hid hA
  have hone : A = A ^ (N / 2 ^ k) % p25 := by rw [hN, Nat.pow_one, Nat.mod_eq_of_lt hA]
  have HONE := Lib.hid hone
  have hwk : IntKind.i64.wrap ((k : Int) + 1 - 2) = (k : Int) - 1 := by rw [IntWalk.i64_in _ (by omega)]; omega
  have hneg : IntKind.u64.wrap (-(c : Int)) = ((18446744073709551616 - c : Nat) : Int) := by rw [IntKind.wrap_u64]; omega
  have hncl : 18446744073709551616 - c < 18446744073709551616 := by omega
  generalize hnc : 18446744073709551616 - c = nc at *
  have HGS : Hid (∀ wq : World, Below w.heap.size w wq → w.heap.size ≤ wq.heap.size) := Lib.hid fun wq h => h.size
  clear hsz hone hN hbit hnc hA hc0 hc1
  subst hw3
  go_enter Tryz.func109, Tryz.ntmps109
  go_wp2_with (first
    | (refine wpList_alloc_arr rfl 51 rfl (arrOf 4 (u64f fun _ => 0)) zeroE ?_; try simp only [World.size_alloc])
    | (refine wpList_load_arr rfl 51 (.tmp 5) rfl 4 arrE hrA0 rfl (by omega) ?_; simp only [Nat.zero_add])
    | (refine wpList_store_arr rfl 51 (.tmp 9) (.tmp 11) rfl 4 arrE hrX rfl rfl (by omega) (fun _ _ => rfl) ?_; intro w9 hr9 hg9 hs9
       have hX9 : w9.rowIs (w.heap.size + 1 + 1) 51 4 (ewF (A ^ (N / 2 ^ k) % p25)) := hr9.congr fun i hi => by unfold putN; rw [if_pos (by omega), Nat.sub_zero, ← HONE.out]
       have hA9 := gb_rowIs hrA hg9 (by omega)
       have hR9 := gb_rowIs hrR hg9 (by omega)
       have hB9 := hbel.grown hg9 (HGS.out _ hbel) (by intro k hk; cases hk; omega)
       clear hrA hrR hrX hbel hr9 hg9 hs9))
  generalize hg0 : w.heap.size = g0 at *
  generalize hg2 : g0 + 1 + 1 = g2 at *
  generalize hg1 : g0 + 1 = g1 at *
  have n02 : g0 ≠ g2 := by omega
  have n12 : g1 ≠ g2 := by omega
  have l1 : g0 ≤ g1 := by omega
  have l2 : g0 ≤ g2 := by omega
  have HG := Lib.hid hg0
  clear hg0 hg1 hg2 hrA0
  go_loopw [10] (fun ii wr => ∃ m : Nat, m ≤ k ∧ ii = .int .i64 ((m : Int) - 1) ∧ wr.rowIs g2 51 4 (ewF (A ^ (N / 2 ^ m) % p25)) ∧ wr.rowIs g0 51 4 (ewF A) ∧ wr.rowIs g1 51 4 (u64f fun _ => 0) ∧ Below g0 w wr) (fun ii _ => ((intOf ii) + 1).toNat)
  case atStart => exact ⟨k, Nat.le_refl _, rfl, hX9, hA9, hR9, hB9⟩
  case round =>
    clear hX9 hA9 hR9 hB9
    obtain ⟨m, hm, rfl, hX, hA, hR, hbel⟩ := hrel
    cases m with
    | zero =>
      rw [Nat.pow_zero, Nat.div_one] at hX
      go_wp2_with (first
        | (refine wpList_load_arr rfl 51 (.tmp 9) rfl 4 arrE hX rfl (by omega) ?_; simp only [Nat.zero_add])
        | (refine wpList_store_arr rfl 51 (.tmp 8) (.tmp 33) rfl 4 arrE hR rfl rfl (by omega) (fun _ _ => rfl) ?_; intro w9 hr9 hg9 hs9))
      refine ret_cell_arr rfl arrE hr9 rfl (by omega) rfl ⟨?_, by rw [HG.out]; exact hbel.grown hg9 (HGS.out _ hbel) (by intro k hk; cases hk; exact l1)⟩
      rw [agg_putW]
    | succ i =>
      rw [show ((i + 1 : Nat) : Int) - 1 = (i : Int) by omega]
      have hiI : 0 ≤ (i : Int) := by omega
      have hik : i < k := by omega
      obtain ⟨t, ht⟩ := nat_var (N / 2 ^ (i + 1))
      rw [← ht] at hX
      have hb := HBIT.out i hik
      have hstep : N / 2 ^ i = 2 * t + N / 2 ^ i % 2 := by
        rw [ht, Nat.pow_succ, ← Nat.div_div_eq_div_mul]
        omega
      rw [← hb] at hstep
      obtain ⟨mm, hmm⟩ := nat_var (min i 63)
      rw [← hmm] at hb hstep
      have hm63 : (mm : Int) ≤ 63 := by omega
      have hm64 : (mm : Int) < 64 := by omega
      have hm0 : 0 ≤ (mm : Int) := by omega
      have HMM : Hid ((mm : Int) = if (63 : Int) < (i : Int) then 63 else (i : Int)) := Lib.hid (by split <;> omega)
      have hdiv : (nc : Int) / 2 ^ mm = ((nc / 2 ^ mm : Nat) : Int) := by simp
      have hq := mask64 (nc / 2 ^ mm) 1 (Nat.lt_of_le_of_lt (Nat.div_le_self _ _) hncl) (by decide) 1 rfl
      rw [← hdiv, Nat.pow_one] at hq
      have hbl : nc / 2 ^ mm % 2 < 2 := Nat.mod_lt _ (by decide)
      have hX2 := Lib.hid (pow_two_mod A t)
      have HSTEP := Lib.hid hstep
      clear hstep hdiv ht hb hmm
      generalize nc / 2 ^ mm % 2 = bt at *
      have hw1 : IntKind.i64.wrap ((i : Int) - 1) = (i : Int) - 1 := by rw [IntWalk.i64_in _ (by omega)]
      by_cases hb1 : bt = 1
      · subst hb1
        have hX3 := Lib.hid (pow_one_mod A (2 * t))
        rw [show ((1 : Nat) : Int) = 1 from rfl] at hq
        go_wp2_with (first
          | (refine wpList_load_arr rfl 51 (.tmp 9) rfl 4 arrE hX rfl (by omega) ?_; simp only [Nat.zero_add])
          | (refine wpList_load_arr rfl 51 (.tmp 9) rfl 4 arrE hX7 rfl (by omega) ?_; simp only [Nat.zero_add])
          | (refine wpList_load_arr rfl 51 (.tmp 5) rfl 4 arrE hA7 rfl (by omega) ?_; simp only [Nat.zero_add])
          | (refine wpList_lesser rfl (.tmp 24) (.const (.int .i64 63)) rfl (m := (mm : Int)) rfl rfl HMM.out ?_)
          | (go_at_call 62
             first
               | (have hgo := hX.lt; refine (mul_any _ _ _ (mod_p_lt (A ^ t)) (mod_p_lt (A ^ t))).mono ?_; rintro e w5 ⟨rfl, hb5⟩; unfold mulP; rw [hX2.out]
                  have hX5 := hX.of_block (hb5.block _ hX.lt)
                  have hA5 := hA.of_block (hb5.block _ hA.lt)
                  have hR5 := hR.of_block (hb5.block _ hR.lt)
                  have hB5 := hbel.trans (hb5.mono (HGS.out _ hbel))
                  clear hX hA hR hbel hb5)
               | (have hgo2 := hX7.lt; refine (mul_any _ _ _ (mod_p_lt (A ^ (2 * t))) HA.out).mono ?_; rintro e w8 ⟨rfl, hb8⟩; unfold mulP; rw [hX3.out]
                  have hX8 := hX7.of_block (hb8.block _ hX7.lt)
                  have hA8 := hA7.of_block (hb8.block _ hA7.lt)
                  have hR8 := hR7.of_block (hb8.block _ hR7.lt)
                  have hB8 := hB7.trans (hb8.mono (HGS.out _ hB7))
                  clear hX7 hA7 hR7 hB7 hb8))
          | (refine wpList_store_arr rfl 51 (.tmp 9) (.tmp 21) rfl 4 arrE hX5 rfl rfl (by omega) (fun _ _ => rfl) ?_; intro w7 hr7 hg7 hs7
             have hX7 : w7.rowIs g2 51 4 (ewF (A ^ (2 * t) % p25)) := hr7.congr fun i hi => by unfold putN; rw [if_pos (by omega), Nat.sub_zero]
             have hA7 := gb_rowIs hA5 hg7 n02
             have hR7 := gb_rowIs hR5 hg7 n12
             have hB7 := hB5.grown hg7 (HGS.out _ hB5) (by intro k hk; cases hk; exact l2)
             clear hX5 hA5 hR5 hB5 hr7 hg7 hs7)
          | (refine wpList_store_arr rfl 51 (.tmp 9) (.tmp 32) rfl 4 arrE hX8 rfl rfl (by omega) (fun _ _ => rfl) ?_; intro w9 hr9 hg9 hs9
             have hX9 : w9.rowIs g2 51 4 (ewF (A ^ (2 * t + 1) % p25)) := hr9.congr fun i hi => by unfold putN; rw [if_pos (by omega), Nat.sub_zero]
             have hA9 := gb_rowIs hA8 hg9 n02
             have hR9 := gb_rowIs hR8 hg9 n12
             have hB9 := hB8.grown hg9 (HGS.out _ hB8) (by intro k hk; cases hk; exact l2)
             clear hX8 hA8 hR8 hB8 hr9 hg9 hs9))
        go_roundw
        case rel => exact ⟨i, by omega, by first | rfl | go_num, by rw [HSTEP.out]; exact hX9, hA9, hR9, hB9⟩
        case measure => simp [intOf]
      · have hb0 : bt = 0 := by omega
        subst hb0
        rw [show ((0 : Nat) : Int) = 0 from rfl] at hq
        go_wp2_with (first
          | (refine wpList_load_arr rfl 51 (.tmp 9) rfl 4 arrE hX rfl (by omega) ?_; simp only [Nat.zero_add])
          | (refine wpList_lesser rfl (.tmp 24) (.const (.int .i64 63)) rfl (m := (mm : Int)) rfl rfl HMM.out ?_)
          | (go_at_call 62
             have hgo := hX.lt; refine (mul_any _ _ _ (mod_p_lt (A ^ t)) (mod_p_lt (A ^ t))).mono ?_; rintro e w5 ⟨rfl, hb5⟩; unfold mulP; rw [hX2.out]
             have hX5 := hX.of_block (hb5.block _ hX.lt)
             have hA5 := hA.of_block (hb5.block _ hA.lt)
             have hR5 := hR.of_block (hb5.block _ hR.lt)
             have hB5 := hbel.trans (hb5.mono (HGS.out _ hbel))
             clear hX hA hR hbel hb5)
          | (refine wpList_store_arr rfl 51 (.tmp 9) (.tmp 21) rfl 4 arrE hX5 rfl rfl (by omega) (fun _ _ => rfl) ?_; intro w7 hr7 hg7 hs7
             have hX7 : w7.rowIs g2 51 4 (ewF (A ^ (2 * t) % p25)) := hr7.congr fun i hi => by unfold putN; rw [if_pos (by omega), Nat.sub_zero]
             have hA7 := gb_rowIs hA5 hg7 n02
             have hR7 := gb_rowIs hR5 hg7 n12
             have hB7 := hB5.grown hg7 (HGS.out _ hB5) (by intro k hk; cases hk; exact l2)
             clear hX5 hA5 hR5 hB5 hr7 hg7 hs7))
        go_roundw
        case rel => exact ⟨i, by omega, by first | rfl | go_num, by rw [HSTEP.out]; exact hX7, hA7, hR7, hB7⟩
        case measure => simp [intOf]
end Go.Proofs.YtonhpmaiagbheaaGreat

/- The program's numbers below p: Inv, Root. -/
set_option linter.unusedSimpArgs false
set_option linter.unusedVariables false
namespace Go.Proofs.YtonhpmaiagbheaaGreat
open Go.RowKit Go.Deep

theorem often_inv (A : Nat) (w : World) (hA : A < p25) : Calls Tryz.prog 109 #[.func (.func 62) #[] #[], .agg (arrOf 4 (ewF A)), .int .i64 255, .int .u64 21] w fun e w' => e = .returned (.agg (arrOf 4 (ewF (invP A)))) ∧ Below w.heap.size w w' :=
  often_any A 254 21 (p25 - 2) 255 21 w rfl rfl hA (by decide) (by decide) (by decide) (by decide) (by decide +kernel) (by decide +kernel)
set_option maxHeartbeats 1000000 in
theorem inv_any (A : Nat) (w : World) (hA : A < p25) : Calls Tryz.prog 61 #[.agg (arrOf 4 (ewF A))] w fun e w' => e = .returned (.agg (arrOf 4 (ewF (invP A)))) ∧ Below w.heap.size w w' := by
  obtain ⟨w2, hw2, hrA, hrR, hbel, hsz⟩ := rowsW2 w (ewF A) 51 51
  have HGS : Hid (∀ wq : World, Below w.heap.size w wq → w.heap.size ≤ wq.heap.size) := Lib.hid fun wq h => h.size
  have l1 : w.heap.size ≤ w.heap.size + 1 := by omega
  have HO := Lib.hid fun w => often_inv A w hA
  generalize invP A = T at *
  clear hsz hA
  subst hw2
  go_enter Tryz.func61, Tryz.ntmps61
  go_wp2_with (first
    | refine wpList_alloc_arr rfl 51 rfl (arrOf 4 (u64f fun _ => 0)) zeroE ?_
    | (refine wpList_load_arr rfl 51 (.tmp 1) rfl 4 arrE hrA rfl (by omega) ?_; simp only [Nat.zero_add, World.size_alloc])
    | (go_at_call 109; refine (HO.out _).mono ?_; rintro e w5 ⟨rfl, hb5⟩
       have hR5 := hrR.of_block (hb5.block _ hrR.lt)
       have hB5 := hbel.trans (hb5.mono (HGS.out _ hbel))
       clear hrA hrR hbel hb5)
    | (refine wpList_store_arr rfl 51 (.tmp 2) (.tmp 4) rfl 4 arrE hR5 rfl rfl (by omega) (fun _ _ => rfl) ?_; intro wb hrb hgb hsb))
  refine ret_cell_arr rfl arrE hrb rfl (by omega) rfl ⟨?_, hB5.grown hgb (HGS.out _ hB5) (by intro k hk; cases hk; exact l1)⟩
  rw [agg_putW]

end Go.Proofs.YtonhpmaiagbheaaGreat

/- The program's numbers below p: Bytes. -/
set_option linter.unusedSimpArgs false
set_option linter.unusedVariables false
namespace Go.Proofs.YtonhpmaiagbheaaGreat
open Go.RowKit Go.Deep

theorem litB_word (V j : Nat) : litB V (8 * (j + 1)) = litB V (8 * j) ++ litB (wd V j) 8 := by
  unfold litB
  rw [show 8 * (j + 1) = 8 * j + 8 by omega, List.range_add, List.map_append, List.map_map]
  congr 1
  refine List.map_congr_left fun i hi => ?_
  have hi8 : i < 8 := List.mem_range.1 hi
  show UInt8.ofNat (V / 2 ^ (8 * (8 * j + i))) = UInt8.ofNat (wd V j / 2 ^ (8 * i))
  have e1 : V / 2 ^ (8 * (8 * j + i)) = V / 18446744073709551616 ^ j / 2 ^ (8 * i) := by
    rw [show 8 * (8 * j + i) = 64 * j + 8 * i by omega, Nat.pow_add, Nat.pow_mul, ← Nat.div_div_eq_div_mul]
  rw [e1]
  apply UInt8.toNat_inj.1
  simp only [UInt8.toNat_ofNat']
  unfold wd
  generalize V / 18446744073709551616 ^ j = U
  have h8 : i = 0 ∨ i = 1 ∨ i = 2 ∨ i = 3 ∨ i = 4 ∨ i = 5 ∨ i = 6 ∨ i = 7 := by omega
  rcases h8 with rfl | rfl | rfl | rfl | rfl | rfl | rfl | rfl <;> omega
theorem run_make32 (w : World) : (Instr.makeSlice 22 (.int .i64 0) (.int .i64 32)).run Tryz.prog w = .ok (.slice (some ⟨w.heap.size, 0, none⟩) 0 32) (w.alloc (.cells (madeCells #[.int .u8 0] 32) 5)) := by kernel_rfl
theorem Owns.made (w : World) : Owns (w.alloc (.cells (madeCells #[.int .u8 0] 32) 5)) w.heap.size (.slice (some ⟨w.heap.size, 0, none⟩) 0 32) [] :=
  World.ownsRow_made w _ 32 (Nat.le_refl _) (by decide) (by simp [madeCells])
theorem Owns.past {w w' : World} {base : Nat} {v : Value} {l : List UInt8} (h : Owns w base v l) (hb : Below w.heap.size w w') : Owns w' base v l := by
  obtain ⟨h1, h2⟩ := h
  refine ⟨h1, ?_⟩
  rcases h2 with h2 | ⟨g, cap, cur, rfl, hbg, hg, h3⟩
  · exact .inl h2
  · exact .inr ⟨g, cap, cur, rfl, hbg, (hb.block g (Array.getElem?_eq_some_iff.1 hg).1).trans hg, h3⟩
set_option maxHeartbeats 1000000 in
theorem bytes_any (V : Nat) (w : World) : Calls Tryz.prog 63 #[.agg (arrOf 4 (ewF V))] w fun e w' => ∃ v, e = .returned v ∧ Owns w' w.heap.size v (litB V 32) ∧ Below w.heap.size w w' := by
  have hrA := (rowIs_arr w 4 (ewF V) 51).alloc (.cells (madeCells #[.int .u8 0] 32) 5)
  have hbel := ((Below.refl w.heap.size w).alloc (Nat.le_refl _) (.cells (arrOf 4 (ewF V)) 51)).alloc (by simp) (.cells (madeCells #[.int .u8 0] 32) 5)
  have hown := Owns.made (w.alloc (.cells (arrOf 4 (ewF V)) 51))
  have hsz : ((w.alloc (.cells (arrOf 4 (ewF V)) 51)).alloc (.cells (madeCells #[.int .u8 0] 32) 5)).heap.size = w.heap.size + 1 + 1 := by simp only [World.size_alloc]
  have hmk := run_make32
  rw [World.size_alloc] at hown
  go_enter Tryz.func63, Tryz.ntmps63
  go_wp2_with (refine wpList_load_arr rfl 46 (.tmp 7) rfl 4 arrW hrA rfl (by omega) ?_; simp only [Nat.zero_add])
  generalize ((w.alloc (.cells (arrOf 4 (ewF V)) 51)).alloc (.cells (madeCells #[.int .u8 0] 32) 5)) = w1 at *
  generalize hg0 : w.heap.size = g0 at *
  have HG := Lib.hid hg0
  clear hg0 hrA hmk
  go_loopw [3, 5, 9] (fun out _ ii wr => ∃ j : Nat, j ≤ 4 ∧ ii = .int .i64 j ∧ Owns wr (g0 + 1) out (litB V (8 * j)) ∧ Below g0 w wr ∧ g0 + 1 ≤ wr.heap.size) (fun _ _ ii _ => 4 - (intOf ii).toNat)
  case atStart => exact ⟨0, Nat.zero_le _, rfl, hown, hbel, by omega⟩
  case round =>
    clear hown hbel hsz
    obtain ⟨j, hj, rfl, hown, hbel, hge⟩ := hrel
    by_cases hlt : j < 4
    · have hjI : 0 ≤ (j : Int) ∧ (j : Int) < 4 := by omega
      obtain ⟨x, hx⟩ := nat_var (wd V j)
      have hxl := wd_lt V j
      rw [← hx] at hxl
      have HX := Lib.hid hx.symm
      have HXL := Lib.hid hxl
      have hll : (litB V (8 * j)).length = 8 * j := litB_length _ _
      have HW := Lib.hid (litB_word V j)
      clear hx hxl
      go_wp2_with (first
        | refine wpList_indexW rfl (.tmp 8) (.tmp 9) rfl (wd V) x HX.out rfl rfl hlt ?_
        | (go_at_call 69; refine (little64_any x _ HXL.out).mono ?_; rintro e w5 ⟨vb, rfl, hb5, hbl5⟩
           have hown5 := hown.past hbl5
           have hbel5 := hbel.trans (hbl5.mono (by rw [← HG.out]; exact hbel.size))
           have hge5 := Nat.le_trans hge hbl5.size
           clear hown hbel)
        | (refine wpList_app rfl (.tmp 12) (.tmp 14) rfl (g0 + 1) _ vb (litB V (8 * j)) (litB x 8) hown5 hb5 rfl rfl (by rw [hll, litB_length]; omega) hge5 ?_; intro v6 w6 hown6 hg6))
      have hbel6 : Below g0 w w6 := hbel5.grown hg6 (by rw [← HG.out]; exact hbel5.size) (fun k hk => Nat.le_of_succ_le (Owns.block hown5 k hk))
      have hge6 : g0 + 1 ≤ w6.heap.size := Nat.le_trans hge5 hg6.size
      have hown7 : Owns w6 (g0 + 1) v6 (litB V (8 * (j + 1))) := by rw [HW.out, HX.out]; exact hown6
      clear hown6 hown5 hbel5
      go_roundw
      case rel => exact ⟨j + 1, by omega, by go_num, hown7, hbel6, hge6⟩
      case measure => simp [intOf]; omega
    · obtain rfl : j = 4 := by omega
      go_wp2
      go_ret
      exact ⟨_, rfl, by rw [HG.out]; exact hown.lower (Nat.le_succ _), by rw [HG.out]; exact hbel⟩
end Go.Proofs.YtonhpmaiagbheaaGreat

/- The program's numbers below p: Of. -/
set_option linter.unusedSimpArgs false
set_option linter.unusedVariables false
namespace Go.Proofs.YtonhpmaiagbheaaGreat
open Go.RowKit Go.Deep

theorem pow256_W (q : Nat) : (256 : Nat) ^ (8 * q) = 18446744073709551616 ^ q := by rw [Nat.pow_mul]
theorem of_step (V x i j : Nat) (hV : V < 256 ^ i) (hx : x < 256) : wd (V + x * 256 ^ i) j = if j = i / 8 then 2 ^ (8 * (i % 8)) * x + wd V (i / 8) else wd V j := by
  obtain ⟨q, hq⟩ := nat_var (i / 8)
  obtain ⟨s, hs⟩ := nat_var (i % 8)
  have hi : i = 8 * q + s := by omega
  have hs8 : s < 8 := by omega
  rw [← hq, ← hs]
  clear hq hs
  subst hi
  rw [Nat.pow_add, pow256_W] at hV ⊢
  have hsp : (256 : Nat) ^ s * 256 ≤ 18446744073709551616 := by
    have h := Nat.pow_le_pow_right (show 0 < 256 by decide) (show s + 1 ≤ 8 by omega)
    rw [Nat.pow_succ] at h
    exact Nat.le_trans h (by decide)
  have hsh : (2 : Nat) ^ (8 * s) = 256 ^ s := by rw [Nat.pow_mul]
  rw [hsh]
  have hsz : 0 < (256 : Nat) ^ s := Nat.pow_pos (by decide)
  generalize (256 : Nat) ^ s = Z at *
  have hxZ : x * Z ≤ 255 * Z := Nat.mul_le_mul_right _ (by omega)
  unfold wd
  by_cases h1 : j = q
  · subst h1
    rw [if_pos rfl, show x * (18446744073709551616 ^ j * Z) = 18446744073709551616 ^ j * (x * Z) by ac_rfl, Nat.add_mul_div_left _ _ (powW_pos j)]
    have h2 : V / 18446744073709551616 ^ j < Z := Nat.div_lt_of_lt_mul hV
    generalize V / 18446744073709551616 ^ j = y at *
    rw [Nat.mul_comm Z x]
    omega
  · rw [if_neg h1]
    by_cases h2 : j < q
    · obtain ⟨d, rfl⟩ : ∃ d, q = j + 1 + d := ⟨q - (j + 1), by omega⟩
      have e : x * (18446744073709551616 ^ (j + 1 + d) * Z) = 18446744073709551616 ^ j * (18446744073709551616 * (18446744073709551616 ^ d * (x * Z))) := by
        rw [Nat.pow_add, Nat.pow_succ]; ac_rfl
      rw [e, Nat.add_mul_div_left _ _ (powW_pos j), Nat.add_mul_mod_self_left]
    · obtain ⟨d, rfl⟩ : ∃ d, j = q + 1 + d := ⟨j - (q + 1), by omega⟩
      have hup : V + x * (18446744073709551616 ^ q * Z) < 18446744073709551616 ^ (q + 1 + d) := by
        have h3 : x * (18446744073709551616 ^ q * Z) ≤ 255 * (18446744073709551616 ^ q * Z) := Nat.mul_le_mul_right _ (by omega)
        have h4 : 18446744073709551616 ^ q * (Z * 256) ≤ 18446744073709551616 ^ q * 18446744073709551616 := Nat.mul_le_mul_left _ hsp
        rw [← Nat.pow_succ, ← Nat.mul_assoc] at h4
        have h5 : (18446744073709551616 : Nat) ^ (q + 1) ≤ 18446744073709551616 ^ (q + 1 + d) := Nat.pow_le_pow_right (by decide) (by omega)
        omega
      rw [Nat.div_eq_of_lt hup, Nat.div_eq_of_lt (Nat.lt_of_le_of_lt (Nat.le_add_right _ _) hup)]
theorem of_low (V i : Nat) (hV : V < 256 ^ i) : wd V (i / 8) < 2 ^ (8 * (i % 8)) := by
  obtain ⟨q, hq⟩ := nat_var (i / 8)
  obtain ⟨s, hs⟩ := nat_var (i % 8)
  have hi : i = 8 * q + s := by omega
  rw [← hq, ← hs]
  clear hq hs
  subst hi
  rw [Nat.pow_add, pow256_W] at hV
  rw [Nat.pow_mul]
  exact Nat.lt_of_le_of_lt (Nat.mod_le _ _) (Nat.div_lt_of_lt_mul hV)
theorem numL_wanting (l : List UInt8) (k : Nat) (h : l.length ≤ k) : ∀ d, numL l (k + d) = numL l k
  | 0 => rfl
  | d + 1 => by
    show numL l (k + d) + (l.getD (k + d) 0).toNat * 256 ^ (k + d) = _
    rw [numL_wanting l k h d, List.getD_eq_getElem?_getD, List.getElem?_eq_none (by omega)]
    simp
theorem numL_min (l : List UInt8) : numL l (min l.length 32) = numL l 32 := by
  by_cases h : l.length ≤ 32
  · rw [Nat.min_eq_left h]
    have := numL_wanting l l.length (Nat.le_refl _) (32 - l.length)
    rw [show l.length + (32 - l.length) = 32 by omega] at this
    exact this.symm
  · rw [Nat.min_eq_right (by omega)]

set_option maxHeartbeats 4000000 in
theorem of_any (v : Value) (l : List UInt8) (w : World) (hv : Bs w v l) : Calls Tryz.prog 56 #[v] w fun e w' => e = .returned (.agg (arrOf 4 (ewF (ofL l)))) ∧ Below w.heap.size w w' := by
  obtain ⟨a, n, cap, rfl, hn, hc1, hc2, hB0⟩ := hv.shape
  have hR := (rowIs_arr w 4 (u64f fun _ => 0) 51).alloc (.cells (arrOf 4 (u64f fun _ => 0)) 46)
  have hL := rowIs_arr (w.alloc (.cells (arrOf 4 (u64f fun _ => 0)) 51)) 4 (u64f fun _ => 0) 46
  have hbel := ((Below.refl w.heap.size w).alloc (Nat.le_refl _) (.cells (arrOf 4 (u64f fun _ => 0)) 51)).alloc (by simp) (.cells (arrOf 4 (u64f fun _ => 0)) 46)
  rw [World.size_alloc] at hL
  have HB := Lib.hid hB0
  have HN := Lib.hid hn
  obtain ⟨k, hk⟩ := nat_var (min n 32)
  have hkn : k ≤ n := by omega
  have hk32 : k ≤ 32 := by omega
  have HK : Hid ((k : Int) = if (32 : Int) < (n : Int) then 32 else (n : Int)) := Lib.hid (by split <;> omega)
  have hkI : (k : Int) ≤ (cap : Int) := by omega
  have HKN : Hid (numL l k = numL l 32) := Lib.hid (by rw [hk, ← hn]; exact numL_min l)
  clear hv hB0 hn hk
  go_enter Tryz.func56, Tryz.ntmps56
  go_wp2_with (first
    | refine wpList_alloc_arr rfl 51 rfl (arrOf 4 (u64f fun _ => 0)) zeroE ?_
    | (refine wpList_alloc_arr rfl 46 rfl (arrOf 4 (u64f fun _ => 0)) zeroW ?_; simp only [World.size_alloc])
    | (refine wpList_lesser rfl (.tmp 8) (.const (.int .i64 32)) rfl (m := (k : Int)) rfl rfl HK.out ?_))
  generalize ((w.alloc (.cells (arrOf 4 (u64f fun _ => 0)) 51)).alloc (.cells (arrOf 4 (u64f fun _ => 0)) 46)) = w2 at *
  generalize hg0 : w.heap.size = g0 at *
  generalize hg1 : g0 + 1 = g1 at *
  have n01 : g0 ≠ g1 := by omega
  have l1 : g0 ≤ g1 := by omega
  have HG := Lib.hid hg0
  have HGS : Hid (∀ wq : World, Below g0 w wq → g0 ≤ wq.heap.size) := Lib.hid fun wq h => by rw [← HG.out]; exact h.size
  clear hg0 hg1
  go_loopw [4, 5, 12] (fun _ _ ii wr => ∃ i : Nat, i ≤ k ∧ ii = .int .i64 i ∧ wr.rowIs g1 46 4 (ewF (numL l i)) ∧ wr.rowIs g0 51 4 (u64f fun _ => 0) ∧ Below g0 w wr) (fun _ _ ii _ => k - (intOf ii).toNat)
  case atStart => exact ⟨0, Nat.zero_le _, rfl, hL.congr fun j _ => by unfold ewF u64f; rw [show numL l 0 = 0 from rfl, wd_small 0 j (by decide)]; split <;> rfl, hR, hbel⟩
  case round =>
    clear hL hR hbel
    obtain ⟨i, hi, rfl, hL, hR, hbel⟩ := hrel
    by_cases hlt : i < k
    · have hiI : 0 ≤ (i : Int) ∧ (i : Int) < (k : Int) := by omega
      obtain ⟨b, off, cap', he, _, _, hbl, hc⟩ := HB.out.open_n HN.out (by omega)
      cases he
      have hil : i < l.length := by rw [HN.out]; omega
      have hci := hc i hil
      rw [← getD_at l i hil] at hci
      have hbw : b < g0 := by rw [← HG.out]; exact hbl
      obtain ⟨x, hx⟩ := nat_var (l.getD i 0).toNat
      have hx1 : x < 256 := by rw [hx]; exact UInt8.toNat_lt _
      rw [← hx] at hci
      have hcx := (hbel.cell (p := ⟨b, off + i, none⟩) hbw).trans hci
      obtain ⟨q, hq⟩ := nat_var (i / 8)
      obtain ⟨s, hs⟩ := nat_var (i % 8)
      obtain ⟨s8, hs8⟩ := nat_var (8 * (i % 8))
      have hV := numL_lt l i
      have hnext : numL l (i + 1) = numL l i + x * 256 ^ i := by rw [hx]; rfl
      have hlow := of_low _ _ hV
      have hstep := fun j => of_step (numL l i) x i j hV hx1
      rw [← hs8, ← hq] at hlow
      have hul := wd_lt (numL l i) q
      have hvl := wd_lt (numL l (i + 1)) q
      have hvq := hstep q
      rw [← hnext, if_pos hq, ← hs8, ← hq] at hvq
      obtain ⟨u, hu⟩ := nat_var (wd (numL l i) q)
      obtain ⟨v, hv⟩ := nat_var (wd (numL l (i + 1)) q)
      have hset : (wr.drew.setCell ⟨g1, q, none⟩ (.int .u64 (v : Int))).rowIs g1 46 4 (ewF (numL l (i + 1))) := row_set_drew hL q v _ (fun j hj => by
        have h := hstep j
        rw [← hnext, ← hs8, ← hq, ← hvq, ← hv] at h
        exact h)
      have hcD : wr.drew.cell? ⟨g1, q, none⟩ = some (.int .u64 (u : Int)) := by
        have h := hL.drew.cell (i := q) (by omega)
        rw [hu]; exact h
      have hfr := hL.drew.frozen q
      rw [← hu, ← hv] at hvq
      rw [← hu] at hlow hul
      rw [← hv] at hvl
      obtain ⟨xs, hxs⟩ := nat_var (2 ^ s8 * x)
      have hor := or_add64' s8 x u hlow (by omega)
      rw [← hvq, ← hxs] at hor
      have hxl : xs < 18446744073709551616 := by omega
      have hshl : IntKind.u64.wrap ((x : Int) * 2 ^ s8) = (xs : Int) := by
        have e : (x : Int) * 2 ^ s8 = (xs : Int) := by rw [hxs, Int.natCast_mul, Int.natCast_pow, Int.mul_comm]; rfl
        rw [e, wrap_nat _ hxl]
      have hquo : IntKind.i64.wrap ((i : Int).tdiv 8) = (q : Int) := by rw [Int.tdiv_eq_ediv_of_nonneg (by omega), IntWalk.i64_in _ (by omega)]; omega
      have hquo2 : IntKind.i64.wrap ((i : Int) / 8) = (q : Int) := by rw [IntWalk.i64_in _ (by omega)]; omega
      have hrem : IntKind.i64.wrap ((i : Int).tmod 8) = (s : Int) := by rw [Int.tmod_eq_emod_of_nonneg (by omega), IntWalk.i64_in _ (by omega)]; omega
      have hrem2 : (i : Int).tmod 8 = (s : Int) := by rw [Int.tmod_eq_emod_of_nonneg (by omega)]; omega
      have hmul : IntKind.i64.wrap (8 * (s : Int)) = (s8 : Int) := by rw [IntWalk.i64_in _ (by omega)]; omega
      have hcv : IntKind.u64.wrap (x : Int) = (x : Int) := wrap_nat _ (by omega)
      have hqI : 0 ≤ (q : Int) ∧ (q : Int) < 4 := by omega
      have hq4 : (q : Int) < 4 := by omega
      have hs8I : 0 ≤ (s8 : Int) := by omega
      have hs8J : (s8 : Int) < 64 := by omega
      have HSET := Lib.hid hset
      clear hset hstep hnext hlow hul hvl hvq hu hv hxs hxl hx hV hci hc hq hs hs8
      go_wp2
      refine wp_region_lins [(0, some [12]), (1, some [12]), (2, some [12]), (3, some [12]), (4, some [12]), (5, some [12]), (6, some [12]), (7, some [12]), (8, some [12]), (9, some [12]), (10, some [12]), (11, some [12]), (12, none)] (fun c w' => w'.cell? ⟨g1, q, none⟩ = some (.int .u64 (u : Int))) (by kernel_rfl) (by kernel_rfl) (by decide) (by kernel_rfl) (fun d _ _ _ _ h => by cases d <;> exact h) (fun c hc => hcD) ?_
      refine lins_read 17 (Op.move (Operand.tmp 4)) 3 _ rfl rfl rfl rfl rfl (fun w0 hw0 => by unfold mkOp; go_simp; all_goals (with_reducible rfl)) ?_
      simp only [Act.put, List.setIfInBounds_toArray, List.set_cons_zero, List.set_cons_succ]
      refine lins_read 18 (Op.binOp BinOp.quo 3 (Operand.tmp 17) (Operand.const (Value.int IntKind.i64 8)) 3) 3 (.int .i64 (q : Int)) rfl rfl rfl rfl rfl (fun w0 hw0 => by unfold mkOp; go_simp; all_goals (with_reducible rfl)) ?_
      simp only [Act.put, List.setIfInBounds_toArray, List.set_cons_zero, List.set_cons_succ]
      refine lins_read 19 (Op.indexAddr 46 (Operand.tmp 3) (Operand.tmp 18)) 0 _ rfl rfl rfl rfl rfl (fun w0 hw0 => by unfold mkOp; go_simp; all_goals (with_reducible rfl)) ?_
      simp only [Act.put, List.setIfInBounds_toArray, List.set_cons_zero, List.set_cons_succ]
      refine lins_read 20 (Op.load 45 (Operand.tmp 19)) 45 (.int .u64 (u : Int)) rfl rfl rfl rfl rfl (fun w0 hw0 => by have hc0 := hw0 12 (by simp); unfold mkOp; go_simp; all_goals (with_reducible rfl)) ?_
      simp only [Act.put, List.setIfInBounds_toArray, List.set_cons_zero, List.set_cons_succ]
      refine lins_read 21 (Op.move (Operand.tmp 5)) 5 _ rfl rfl rfl rfl rfl (fun w0 hw0 => by unfold mkOp; go_simp; all_goals (with_reducible rfl)) ?_
      simp only [Act.put, List.setIfInBounds_toArray, List.set_cons_zero, List.set_cons_succ]
      refine lins_read 22 (Op.convert 5 45 (Operand.tmp 21)) 45 (.int .u64 (x : Int)) rfl rfl rfl rfl rfl (fun w0 hw0 => by unfold mkOp; go_simp; all_goals (with_reducible rfl)) ?_
      simp only [Act.put, List.setIfInBounds_toArray, List.set_cons_zero, List.set_cons_succ]
      refine lins_read 23 (Op.move (Operand.tmp 4)) 3 _ rfl rfl rfl rfl rfl (fun w0 hw0 => by unfold mkOp; go_simp; all_goals (with_reducible rfl)) ?_
      simp only [Act.put, List.setIfInBounds_toArray, List.set_cons_zero, List.set_cons_succ]
      refine lins_read 24 (Op.binOp BinOp.rem 3 (Operand.tmp 23) (Operand.const (Value.int IntKind.i64 8)) 3) 3 (.int .i64 (s : Int)) rfl rfl rfl rfl rfl (fun w0 hw0 => by unfold mkOp; go_simp; all_goals (with_reducible rfl)) ?_
      simp only [Act.put, List.setIfInBounds_toArray, List.set_cons_zero, List.set_cons_succ]
      refine lins_read 25 (Op.binOp BinOp.mul 3 (Operand.const (Value.int IntKind.i64 8)) (Operand.tmp 24) 3) 3 (.int .i64 (s8 : Int)) rfl rfl rfl rfl rfl (fun w0 hw0 => by unfold mkOp; go_simp; all_goals (with_reducible rfl)) ?_
      simp only [Act.put, List.setIfInBounds_toArray, List.set_cons_zero, List.set_cons_succ]
      refine lins_read 26 (Op.binOp BinOp.shl 45 (Operand.tmp 22) (Operand.tmp 25) 3) 45 (.int .u64 (xs : Int)) rfl rfl rfl rfl rfl (fun w0 hw0 => by unfold mkOp; go_simp; all_goals (with_reducible rfl)) ?_
      simp only [Act.put, List.setIfInBounds_toArray, List.set_cons_zero, List.set_cons_succ]
      refine lins_read 27 (Op.binOp BinOp.or 45 (Operand.tmp 20) (Operand.tmp 26) 45) 45 (.int .u64 (v : Int)) rfl rfl rfl rfl rfl (fun w0 hw0 => by unfold mkOp; go_simp; all_goals (with_reducible rfl)) ?_
      simp only [Act.put, List.setIfInBounds_toArray, List.set_cons_zero, List.set_cons_succ]
      refine lins_read 28 (Op.indexAddr 46 (Operand.tmp 3) (Operand.tmp 18)) 0 _ rfl rfl rfl rfl rfl (fun w0 hw0 => by unfold mkOp; go_simp; all_goals (with_reducible rfl)) ?_
      simp only [Act.put, List.setIfInBounds_toArray, List.set_cons_zero, List.set_cons_succ]
      refine lins_store (Op.store 45 (Operand.tmp 28) (Operand.tmp 27)) 0 (_) rfl rfl rfl rfl rfl (by unfold mkOp; go_simp; all_goals (with_reducible rfl)) (fun _ _ => True) (fun c hc => by cases hc) ?_
      try simp only [Act.put, List.setIfInBounds_toArray, List.set_cons_zero, List.set_cons_succ]
      refine lins_end ?_
      go_wp2
      go_roundw
      case rel => exact ⟨i + 1, by omega, by go_num, HSET.out, hR.drew.setOther n01 _, hbel.drew.setCell (show g0 ≤ (⟨g1, q, none⟩ : Addr).block from l1) _⟩
      case measure => simp [intOf]; omega
    · obtain rfl : i = k := by omega
      obtain ⟨Z, hZ⟩ := nat_var (numL l 32)
      have hV : Z < B4 := by rw [hZ]; have h := numL_lt l 32; exact Nat.lt_of_lt_of_le h (by decide +kernel)
      have hkz := HKN.out
      rw [← hZ] at hkz
      rw [hkz] at hL
      have HRES := Lib.hid (show Z % top % p25 = ofL l by rw [hZ]; rfl)
      clear hZ hkz HKN
      have hc3 : wr.cell? ⟨g1, 3, none⟩ = some (.int .u64 ((wd Z 3 : Nat) : Int)) := hL.cell (i := 3) (by omega)
      have hf3 := hL.frozen 3
      have hand := andnot_top (wd Z 3) (wd_lt _ _)
      have hrT := row_top hL
      have hbT := hbel.setCell (p := ⟨g1, 3, none⟩) l1 (.int .u64 ((wd Z 3 % 9223372036854775808 : Nat) : Int))
      have hRT := hR.setOther (show g0 ≠ (⟨g1, 3, none⟩ : Addr).block from n01) (.int .u64 ((wd Z 3 % 9223372036854775808 : Nat) : Int))
      have HR := Lib.hid fun w => reduced_any (Z % top) 0 w (Nat.lt_trans (Nat.mod_lt _ top_pos) top_B4) (by decide)
      generalize Z % top = T at *
      generalize wd Z 3 % 9223372036854775808 = z at *
      generalize wd Z 3 = y at *
      clear hL hR hbel hV
      go_wp2_with (first
        | (refine wpList_load_arr rfl 46 (.tmp 3) rfl 4 arrW hrT rfl (by omega) ?_; simp only [Nat.zero_add])
        | (go_at_call 108; refine (HR.out _).mono ?_; rintro e wa ⟨rfl, hba⟩
           have hRa := hRT.of_block (hba.block _ hRT.lt)
           have hBa := hbT.trans (hba.mono (HGS.out _ hbT))
           clear hRT hbT hba hrT HR)
        | (refine wpList_store_arr rfl 51 (.tmp 2) (.tmp 35) rfl 4 arrE hRa rfl rfl (by omega) (fun _ _ => rfl) ?_; intro wb hrb hgb hsb))
      refine ret_cell_arr rfl arrE hrb rfl (by omega) rfl ⟨?_, by rw [HG.out]; exact hBa.grown hgb (HGS.out _ hBa) (by intro k hk; cases hk; exact Nat.le_refl _)⟩
      rw [agg_putW, HRES.out]
end Go.Proofs.YtonhpmaiagbheaaGreat

/- The program's numbers below p: Strict. -/
set_option linter.unusedSimpArgs false
set_option linter.unusedVariables false
namespace Go.Proofs.YtonhpmaiagbheaaGreat
open Go.RowKit Go.Deep

end Go.Proofs.YtonhpmaiagbheaaGreat

/- What the laws of chapter 5 ask: few, is, awake. -/
set_option linter.unusedSimpArgs false
set_option linter.unusedVariables false
namespace Go.Proofs.YtonhpmaiagbheaaGreat
open Go.RowKit Go.Deep

theorem refInv5_any (A : Nat) (w : World) (hA : A < p25) : Calls Tryz.prog 77 #[.agg (arrOf 16 (feF A))] w fun e w' => e = .returned (.agg (arrOf 16 (feF (invP A)))) ∧ Below w.heap.size w w' := refInv_any A w hA
theorem refAdd5_any (A B : Nat) (w : World) (hA : A < p25) (hB : B < p25) : Calls Tryz.prog 97 #[.agg (arrOf 16 (feF A)), .agg (arrOf 16 (feF B))] w fun e w' => e = .returned (.agg (arrOf 16 (feF (addP A B)))) ∧ Below w.heap.size w w' := refAdd_any A B w hA hB
theorem refMul5_any (A B : Nat) (w : World) (hA : A < p25) (hB : B < p25) : Calls Tryz.prog 76 #[.agg (arrOf 16 (feF A)), .agg (arrOf 16 (feF B))] w fun e w' => e = .returned (.agg (arrOf 16 (feF (mulP A B)))) ∧ Below w.heap.size w w' := refMul_any A B w hA hB
theorem refNeg5_any (A : Nat) (w : World) (hA : A < p25) : Calls Tryz.prog 99 #[.agg (arrOf 16 (feF A))] w fun e w' => e = .returned (.agg (arrOf 16 (feF (oppP A)))) ∧ Below w.heap.size w w' := refNeg_any A w hA
section
variable {P : Program} {ops : Array Oper} {Q : Exit → Act → World → Prop}
end
theorem exec_str_yes {w : World} (ρ : Operand → Value) (x y : Operand) (t : TypeId) {l m : List UInt8} (h : l = m) (hx : ρ x = .string ⟨l.toArray⟩) (hy : ρ y = .string ⟨m.toArray⟩) :
    (execOp ρ (mkOp (.binOp .eql 9 x y 9) t)).run Tryz.prog w = .ok (.value (.bool true)) w := by
  subst h
  simp only [execOp, mkOp, hx, hy]
  all_goals go_simp
end Go.Proofs.YtonhpmaiagbheaaGreat

/- The document's points: what they are in memory; curve, Zero, add, Add, NegPt, Same, Small. -/
set_option linter.unusedSimpArgs false
set_option linter.unusedVariables false
namespace Go.Proofs.YtonhpmaiagbheaaGreat
open Go.RowKit Go.Deep

/-- The cells of the point told by x, y and z. -/
def ptF (x y z : Nat) : Nat → Value := fun i => if i < 16 then feF x i else if i < 32 then feF y (i - 16) else feF z (i - 32)
theorem ptF_x (x y z i : Nat) (h : i < 16) : ptF x y z (0 + i) = feF x i := by
  unfold ptF
  rw [Nat.zero_add, if_pos h]
theorem ptF_y (x y z i : Nat) (h : i < 16) : ptF x y z (16 + i) = feF y i := by
  unfold ptF
  rw [if_neg (by omega), if_pos (by omega), Nat.add_sub_cancel_left]
theorem ptF_z (x y z i : Nat) (h : i < 16) : ptF x y z (32 + i) = feF z i := by
  unfold ptF
  rw [if_neg (by omega), if_neg (by omega), Nat.add_sub_cancel_left]
theorem ptF_one (x y z j : Nat) : (ptF x y z j).oneCell' = true := by
  unfold ptF
  split
  · rfl
  · split <;> rfl
theorem arrP : IsArr Tryz.prog 63 48 := ⟨by kernel_rfl, by kernel_rfl⟩
theorem zeroPt : (Tryz.prog.info? 63).map (fun i => i.zero) = some (some (.agg (arrOf 48 (u64f fun _ => 0)))) := by kernel_rfl
theorem builtP (x y z : Nat) : Tryz.prog.built 63 [(0, .agg (arrOf 16 (feF x))), (1, .agg (arrOf 16 (feF y))), (2, .agg (arrOf 16 (feF z)))] = some (arrOf 48 (ptF x y z)) := by kernel_rfl
theorem builtP2 (y z : Nat) : Tryz.prog.built 63 [(1, .agg (arrOf 16 (feF y))), (2, .agg (arrOf 16 (feF z)))] = some (arrOf 48 (ptF 0 y z)) := by kernel_rfl
theorem exec_Fe_eq2 {w : World} (ρ : Operand → Value) (x y : Operand) (t : TypeId) {A C : Nat} {o : Bool} (hA : A < p25) (hC : C < p25) (ho : decide (A = C) = o) (hx : ρ x = .agg (arrOf 16 (feF A))) (hy : ρ y = .agg (arrOf 16 (feF C))) :
    (execOp ρ (mkOp (.binOp .eql 61 x y 61) t)).run Tryz.prog w = .ok (.value (.bool o)) w := by
  have hq := run_eqGuard_agg (P := Tryz.prog) w .eql 61 x y (arrOf 16 (feF A)) (arrOf 16 (feF C)) (by kernel_rfl)
  have hr := run_eql_arr2 (P := Tryz.prog) w 61 45 16 .u64 (fun i => (dig A i : Int)) (fun i => (dig C i : Int)) (by kernel_rfl) (by kernel_rfl) (by kernel_rfl)
  rw [← ho]
  have hr' : (binOp .eql 61 (.agg (arrOf 16 (feF A))) (.agg (arrOf 16 (feF C)))).run Tryz.prog w = .ok (.bool (decide (A = C))) w := by
    rw [← decide_eq_decide.2 (dig_inj hA hC)]; exact hr
  simp [execOp, mkOp, hx, hy, hq, hr', Result.andThen]
def pSame (a b : Nat × Nat × Nat) : Bool := decide (mulP a.1 b.2.2 = mulP b.1 a.2.2) && decide (mulP a.2.1 b.2.2 = mulP b.2.1 a.2.2)
def pEight (a : Nat × Nat × Nat) : Nat × Nat × Nat := let b := padd dP a a; let c := padd dP b b; padd dP c c
def pSmall (a : Nat × Nat × Nat) : Bool := pSame (pEight a) (0, 1, 1)

set_option maxHeartbeats 4000000 in
set_option maxRecDepth 10000 in
theorem curve_any (w : World) : Calls Tryz.prog 79 #[] w fun e w' => e = .returned (.agg (arrOf 16 (feF dP))) ∧ Below w.heap.size w w' := by
  have Bw0 := Below.refl w.heap.size w
  have HGS : Hid (∀ wq : World, Below w.heap.size w wq → w.heap.size ≤ wq.heap.size) := Lib.hid fun wq h => h.size
  go_enter Tryz.func79, Tryz.ntmps79
  go_wp2_with (first
    | (have hgo := Bw0; clear hgo
       refine wpList_alloc_row rfl 61 rfl 16 (u64f fun _ => 0) zeroFe ?_
       intro b_t0 w1 lk r_t0 kk
       have l_t0 := zrl HGS Bw0 lk
       have Bw1 := zbt HGS Bw0 kk
       clear Bw0 kk lk)
    | (have hgo := Bw1; clear hgo
       go_at_call 75
       refine (refSmall_any 121665 _ (by decide)).mono ?_
       rintro e w2 ⟨rfl, kk⟩
       replace r_t0 := zrb r_t0 kk
       have Bw2 := zbt HGS Bw1 kk
       clear Bw1 kk)
    | (have hgo := Bw2; clear hgo
       go_at_call 99
       refine (refNeg5_any 121665 _ (by decide +kernel)).mono ?_
       rintro e w3 ⟨rfl, kk⟩
       replace r_t0 := zrb r_t0 kk
       have Bw3 := zbt HGS Bw2 kk
       clear Bw2 kk)
    | (have hgo := Bw3; clear hgo
       go_at_call 75
       refine (refSmall_any 121666 _ (by decide)).mono ?_
       rintro e w4 ⟨rfl, kk⟩
       replace r_t0 := zrb r_t0 kk
       have Bw4 := zbt HGS Bw3 kk
       clear Bw3 kk)
    | (have hgo := Bw4; clear hgo
       go_at_call 77
       refine (refInv5_any 121666 _ (by decide +kernel)).mono ?_
       rintro e w5 ⟨rfl, kk⟩
       replace r_t0 := zrb r_t0 kk
       have Bw5 := zbt HGS Bw4 kk
       clear Bw4 kk)
    | (have hgo := Bw5; clear hgo
       go_at_call 76
       refine (refMul5_any (oppP 121665) (invP 121666) _ (oppP_lt _) (invP_lt _)).mono ?_
       rintro e w6 ⟨rfl, kk⟩
       replace r_t0 := zrb r_t0 kk
       have Bw6 := zbt HGS Bw5 kk
       clear Bw5 kk)
    | (have hgo := Bw6; clear hgo
       refine wpList_store_as rfl 61 (.tmp 0) (.tmp 5) rfl 16 (feF (mulP (oppP 121665) (invP 121666))) arrFe r_t0 rfl rfl (by omega) (fun _ _ => rfl) (fun i hi => putN_whole hi) ?_
       intro w7 q gk
       replace r_t0 := q
       have Bw7 := zbg HGS Bw6 gk l_t0
       clear Bw6 gk q))
  exact ret_cell_as _ rfl arrFe r_t0 rfl (by omega) (fun _ _ => rfl) rfl ⟨rfl, Bw7⟩
set_option maxHeartbeats 4000000 in
set_option maxRecDepth 10000 in
theorem refZero_any (w : World) : Calls Tryz.prog 80 #[] w fun e w' => e = .returned (.agg (arrOf 48 (ptF 0 1 1))) ∧ Below w.heap.size w w' := by
  have Bw0 := Below.refl w.heap.size w
  have HGS : Hid (∀ wq : World, Below w.heap.size w wq → w.heap.size ≤ wq.heap.size) := Lib.hid fun wq h => h.size
  go_enter Tryz.func80, Tryz.ntmps80
  go_wp2_with (first
    | (have hgo := Bw0; clear hgo
       refine wpList_alloc_row rfl 63 rfl 48 (u64f fun _ => 0) zeroPt ?_
       intro b_t0 w1 lk r_t0 kk
       have l_t0 := zrl HGS Bw0 lk
       have Bw1 := zbt HGS Bw0 kk
       clear Bw0 kk lk)
    | (have hgo := Bw1; clear hgo
       go_at_call 75
       refine (refSmall_any 1 _ (by decide)).mono ?_
       rintro e w2 ⟨rfl, kk⟩
       replace r_t0 := zrb r_t0 kk
       have Bw2 := zbt HGS Bw1 kk
       clear Bw1 kk)
    | (have hgo := Bw2; clear hgo
       go_at_call 75
       refine (refSmall_any 1 _ (by decide)).mono ?_
       rintro e w3 ⟨rfl, kk⟩
       replace r_t0 := zrb r_t0 kk
       have Bw3 := zbt HGS Bw2 kk
       clear Bw2 kk)
    | (have hgo := Bw3; clear hgo
       refine wpList_build_arr rfl 63 #[(1, Operand.tmp 1), (2, Operand.tmp 2)] rfl (arrOf 48 (ptF 0 1 1)) ?_ ?_
       · simp only [List.map_toArray, List.map_cons, List.map_nil]; exact builtP2 1 1
       have Bw4 := Bw3
       clear Bw3)
    | (have hgo := Bw4; clear hgo
       refine wpList_store_as rfl 63 (.tmp 0) (.tmp 3) rfl 48 (ptF 0 1 1) arrP r_t0 rfl rfl (by omega) (fun j _ => ptF_one _ _ _ j) (fun i hi => putN_whole hi) ?_
       intro w5 q gk
       replace r_t0 := q
       have Bw5 := zbg HGS Bw4 gk l_t0
       clear Bw4 gk q))
  exact ret_cell_as _ rfl arrP r_t0 rfl (by omega) (fun _ _ => rfl) rfl ⟨rfl, Bw5⟩
set_option maxHeartbeats 4000000 in
set_option maxRecDepth 10000 in
theorem refPadd_any (X Y Z V Q T D : Nat) (w : World) (HX : X < p25) (HY : Y < p25) (HZ : Z < p25) (HV : V < p25) (HQ : Q < p25) (HT : T < p25) (HD : D < p25) : Calls Tryz.prog 81 #[.agg (arrOf 48 (ptF X Y Z)), .agg (arrOf 48 (ptF V Q T)), .agg (arrOf 16 (feF D))] w fun e w' => e = .returned (.agg (arrOf 48 (ptF (padd D (X, Y, Z) (V, Q, T)).1 (padd D (X, Y, Z) (V, Q, T)).2.1 (padd D (X, Y, Z) (V, Q, T)).2.2))) ∧ Below w.heap.size w w' := by
  have Bw0 := Below.refl w.heap.size w
  have HGS : Hid (∀ wq : World, Below w.heap.size w wq → w.heap.size ≤ wq.heap.size) := Lib.hid fun wq h => h.size
  replace HX := Lib.hid HX
  replace HY := Lib.hid HY
  replace HZ := Lib.hid HZ
  replace HV := Lib.hid HV
  replace HQ := Lib.hid HQ
  replace HT := Lib.hid HT
  replace HD := Lib.hid HD
  go_enter Tryz.func81, Tryz.ntmps81
  go_wp2_with (first
    | (have hgo := Bw0; clear hgo
       refine wpList_box_row rfl 63 (.tmp 0) rfl 48 (ptF X Y Z) rfl ?_
       intro b_t3 w1 lk r_t3 kk
       have l_t3 := zrl HGS Bw0 lk
       have Bw1 := zbt HGS Bw0 kk
       clear Bw0 kk lk)
    | (have hgo := Bw1; clear hgo
       refine wpList_box_row rfl 63 (.tmp 1) rfl 48 (ptF V Q T) rfl ?_
       intro b_t4 w2 lk r_t4 kk
       have n_t3_t4 := zrn r_t3 lk
       have l_t4 := zrl HGS Bw1 lk
       replace r_t3 := zrb r_t3 kk
       have Bw2 := zbt HGS Bw1 kk
       clear Bw1 kk lk)
    | (have hgo := Bw2; clear hgo
       refine wpList_box_row rfl 61 (.tmp 2) rfl 16 (feF D) rfl ?_
       intro b_t5 w3 lk r_t5 kk
       have n_t3_t5 := zrn r_t3 lk
       have n_t4_t5 := zrn r_t4 lk
       have l_t5 := zrl HGS Bw2 lk
       replace r_t3 := zrb r_t3 kk
       replace r_t4 := zrb r_t4 kk
       have Bw3 := zbt HGS Bw2 kk
       clear Bw2 kk lk)
    | (have hgo := Bw3; clear hgo
       refine wpList_alloc_row rfl 63 rfl 48 (u64f fun _ => 0) zeroPt ?_
       intro b_t6 w4 lk r_t6 kk
       have n_t3_t6 := zrn r_t3 lk
       have n_t4_t6 := zrn r_t4 lk
       have n_t5_t6 := zrn r_t5 lk
       have l_t6 := zrl HGS Bw3 lk
       replace r_t3 := zrb r_t3 kk
       replace r_t4 := zrb r_t4 kk
       replace r_t5 := zrb r_t5 kk
       have Bw4 := zbt HGS Bw3 kk
       clear Bw3 kk lk)
    | (have hgo := Bw4; clear hgo
       refine wpList_load_as rfl 61 (.tmp 15) rfl 16 (feF Z) arrFe r_t3 rfl (by omega) (fun i hi => ptF_z _ _ _ i hi) ?_
       have Bw5 := Bw4
       clear Bw4)
    | (have hgo := Bw5; clear hgo
       refine wpList_load_as rfl 61 (.tmp 17) rfl 16 (feF T) arrFe r_t4 rfl (by omega) (fun i hi => ptF_z _ _ _ i hi) ?_
       have Bw6 := Bw5
       clear Bw5)
    | (have hgo := Bw6; clear hgo
       go_at_call 76
       refine (refMul5_any Z T _ HZ.out HT.out).mono ?_
       rintro e w9 ⟨rfl, kk⟩
       replace r_t3 := zrb r_t3 kk
       replace r_t4 := zrb r_t4 kk
       replace r_t5 := zrb r_t5 kk
       replace r_t6 := zrb r_t6 kk
       have Bw7 := zbt HGS Bw6 kk
       clear Bw6 kk)
    | (have hgo := Bw7; clear hgo
       refine wpList_alloc_row rfl 61 rfl 16 (u64f fun _ => 0) zeroFe ?_
       intro b_t7 w10 lk r_t7 kk
       have n_t3_t7 := zrn r_t3 lk
       have n_t4_t7 := zrn r_t4 lk
       have n_t5_t7 := zrn r_t5 lk
       have n_t6_t7 := zrn r_t6 lk
       have l_t7 := zrl HGS Bw7 lk
       replace r_t3 := zrb r_t3 kk
       replace r_t4 := zrb r_t4 kk
       replace r_t5 := zrb r_t5 kk
       replace r_t6 := zrb r_t6 kk
       have Bw8 := zbt HGS Bw7 kk
       clear Bw7 kk lk)
    | (have hgo := Bw8; clear hgo
       refine wpList_store_as rfl 61 (.tmp 7) (.tmp 19) rfl 16 (feF (mulP Z T)) arrFe r_t7 rfl rfl (by omega) (fun _ _ => rfl) (fun i hi => putN_whole hi) ?_
       intro w11 q gk
       replace r_t3 := gb_rowIs r_t3 gk n_t3_t7
       replace r_t4 := gb_rowIs r_t4 gk n_t4_t7
       replace r_t5 := gb_rowIs r_t5 gk n_t5_t7
       replace r_t6 := gb_rowIs r_t6 gk n_t6_t7
       replace r_t7 := q
       have Bw9 := zbg HGS Bw8 gk l_t7
       clear Bw8 gk q)
    | (have hgo := Bw9; clear hgo
       refine wpList_load_as rfl 61 (.tmp 7) rfl 16 (feF (mulP Z T)) arrFe r_t7 rfl (by omega) (fun i hi => by rw [Nat.zero_add]) ?_
       have Bw10 := Bw9
       clear Bw9)
    | (have hgo := Bw10; clear hgo
       refine wpList_load_as rfl 61 (.tmp 7) rfl 16 (feF (mulP Z T)) arrFe r_t7 rfl (by omega) (fun i hi => by rw [Nat.zero_add]) ?_
       have Bw11 := Bw10
       clear Bw10)
    | (have hgo := Bw11; clear hgo
       go_at_call 76
       refine (refMul5_any (mulP Z T) (mulP Z T) _ (mulP_lt _ _) (mulP_lt _ _)).mono ?_
       rintro e w14 ⟨rfl, kk⟩
       replace r_t3 := zrb r_t3 kk
       replace r_t4 := zrb r_t4 kk
       replace r_t5 := zrb r_t5 kk
       replace r_t6 := zrb r_t6 kk
       replace r_t7 := zrb r_t7 kk
       have Bw12 := zbt HGS Bw11 kk
       clear Bw11 kk)
    | (have hgo := Bw12; clear hgo
       refine wpList_alloc_row rfl 61 rfl 16 (u64f fun _ => 0) zeroFe ?_
       intro b_t8 w15 lk r_t8 kk
       have n_t3_t8 := zrn r_t3 lk
       have n_t4_t8 := zrn r_t4 lk
       have n_t5_t8 := zrn r_t5 lk
       have n_t6_t8 := zrn r_t6 lk
       have n_t7_t8 := zrn r_t7 lk
       have l_t8 := zrl HGS Bw12 lk
       replace r_t3 := zrb r_t3 kk
       replace r_t4 := zrb r_t4 kk
       replace r_t5 := zrb r_t5 kk
       replace r_t6 := zrb r_t6 kk
       replace r_t7 := zrb r_t7 kk
       have Bw13 := zbt HGS Bw12 kk
       clear Bw12 kk lk)
    | (have hgo := Bw13; clear hgo
       refine wpList_store_as rfl 61 (.tmp 8) (.tmp 22) rfl 16 (feF (mulP (mulP Z T) (mulP Z T))) arrFe r_t8 rfl rfl (by omega) (fun _ _ => rfl) (fun i hi => putN_whole hi) ?_
       intro w16 q gk
       replace r_t3 := gb_rowIs r_t3 gk n_t3_t8
       replace r_t4 := gb_rowIs r_t4 gk n_t4_t8
       replace r_t5 := gb_rowIs r_t5 gk n_t5_t8
       replace r_t6 := gb_rowIs r_t6 gk n_t6_t8
       replace r_t7 := gb_rowIs r_t7 gk n_t7_t8
       replace r_t8 := q
       have Bw14 := zbg HGS Bw13 gk l_t8
       clear Bw13 gk q)
    | (have hgo := Bw14; clear hgo
       refine wpList_load_as rfl 61 (.tmp 23) rfl 16 (feF X) arrFe r_t3 rfl (by omega) (fun i hi => ptF_x _ _ _ i hi) ?_
       have Bw15 := Bw14
       clear Bw14)
    | (have hgo := Bw15; clear hgo
       refine wpList_load_as rfl 61 (.tmp 25) rfl 16 (feF V) arrFe r_t4 rfl (by omega) (fun i hi => ptF_x _ _ _ i hi) ?_
       have Bw16 := Bw15
       clear Bw15)
    | (have hgo := Bw16; clear hgo
       go_at_call 76
       refine (refMul5_any X V _ HX.out HV.out).mono ?_
       rintro e w21 ⟨rfl, kk⟩
       replace r_t3 := zrb r_t3 kk
       replace r_t4 := zrb r_t4 kk
       replace r_t5 := zrb r_t5 kk
       replace r_t6 := zrb r_t6 kk
       replace r_t7 := zrb r_t7 kk
       replace r_t8 := zrb r_t8 kk
       have Bw17 := zbt HGS Bw16 kk
       clear Bw16 kk)
    | (have hgo := Bw17; clear hgo
       refine wpList_alloc_row rfl 61 rfl 16 (u64f fun _ => 0) zeroFe ?_
       intro b_t9 w22 lk r_t9 kk
       have n_t3_t9 := zrn r_t3 lk
       have n_t4_t9 := zrn r_t4 lk
       have n_t5_t9 := zrn r_t5 lk
       have n_t6_t9 := zrn r_t6 lk
       have n_t7_t9 := zrn r_t7 lk
       have n_t8_t9 := zrn r_t8 lk
       have l_t9 := zrl HGS Bw17 lk
       replace r_t3 := zrb r_t3 kk
       replace r_t4 := zrb r_t4 kk
       replace r_t5 := zrb r_t5 kk
       replace r_t6 := zrb r_t6 kk
       replace r_t7 := zrb r_t7 kk
       replace r_t8 := zrb r_t8 kk
       have Bw18 := zbt HGS Bw17 kk
       clear Bw17 kk lk)
    | (have hgo := Bw18; clear hgo
       refine wpList_store_as rfl 61 (.tmp 9) (.tmp 27) rfl 16 (feF (mulP X V)) arrFe r_t9 rfl rfl (by omega) (fun _ _ => rfl) (fun i hi => putN_whole hi) ?_
       intro w23 q gk
       replace r_t3 := gb_rowIs r_t3 gk n_t3_t9
       replace r_t4 := gb_rowIs r_t4 gk n_t4_t9
       replace r_t5 := gb_rowIs r_t5 gk n_t5_t9
       replace r_t6 := gb_rowIs r_t6 gk n_t6_t9
       replace r_t7 := gb_rowIs r_t7 gk n_t7_t9
       replace r_t8 := gb_rowIs r_t8 gk n_t8_t9
       replace r_t9 := q
       have Bw19 := zbg HGS Bw18 gk l_t9
       clear Bw18 gk q)
    | (have hgo := Bw19; clear hgo
       refine wpList_load_as rfl 61 (.tmp 28) rfl 16 (feF Y) arrFe r_t3 rfl (by omega) (fun i hi => ptF_y _ _ _ i hi) ?_
       have Bw20 := Bw19
       clear Bw19)
    | (have hgo := Bw20; clear hgo
       refine wpList_load_as rfl 61 (.tmp 30) rfl 16 (feF Q) arrFe r_t4 rfl (by omega) (fun i hi => ptF_y _ _ _ i hi) ?_
       have Bw21 := Bw20
       clear Bw20)
    | (have hgo := Bw21; clear hgo
       go_at_call 76
       refine (refMul5_any Y Q _ HY.out HQ.out).mono ?_
       rintro e w28 ⟨rfl, kk⟩
       replace r_t3 := zrb r_t3 kk
       replace r_t4 := zrb r_t4 kk
       replace r_t5 := zrb r_t5 kk
       replace r_t6 := zrb r_t6 kk
       replace r_t7 := zrb r_t7 kk
       replace r_t8 := zrb r_t8 kk
       replace r_t9 := zrb r_t9 kk
       have Bw22 := zbt HGS Bw21 kk
       clear Bw21 kk)
    | (have hgo := Bw22; clear hgo
       refine wpList_alloc_row rfl 61 rfl 16 (u64f fun _ => 0) zeroFe ?_
       intro b_t10 w29 lk r_t10 kk
       have n_t3_t10 := zrn r_t3 lk
       have n_t4_t10 := zrn r_t4 lk
       have n_t5_t10 := zrn r_t5 lk
       have n_t6_t10 := zrn r_t6 lk
       have n_t7_t10 := zrn r_t7 lk
       have n_t8_t10 := zrn r_t8 lk
       have n_t9_t10 := zrn r_t9 lk
       have l_t10 := zrl HGS Bw22 lk
       replace r_t3 := zrb r_t3 kk
       replace r_t4 := zrb r_t4 kk
       replace r_t5 := zrb r_t5 kk
       replace r_t6 := zrb r_t6 kk
       replace r_t7 := zrb r_t7 kk
       replace r_t8 := zrb r_t8 kk
       replace r_t9 := zrb r_t9 kk
       have Bw23 := zbt HGS Bw22 kk
       clear Bw22 kk lk)
    | (have hgo := Bw23; clear hgo
       refine wpList_store_as rfl 61 (.tmp 10) (.tmp 32) rfl 16 (feF (mulP Y Q)) arrFe r_t10 rfl rfl (by omega) (fun _ _ => rfl) (fun i hi => putN_whole hi) ?_
       intro w30 q gk
       replace r_t3 := gb_rowIs r_t3 gk n_t3_t10
       replace r_t4 := gb_rowIs r_t4 gk n_t4_t10
       replace r_t5 := gb_rowIs r_t5 gk n_t5_t10
       replace r_t6 := gb_rowIs r_t6 gk n_t6_t10
       replace r_t7 := gb_rowIs r_t7 gk n_t7_t10
       replace r_t8 := gb_rowIs r_t8 gk n_t8_t10
       replace r_t9 := gb_rowIs r_t9 gk n_t9_t10
       replace r_t10 := q
       have Bw24 := zbg HGS Bw23 gk l_t10
       clear Bw23 gk q))
  have Bw25 := Bw24.drew
  replace r_t3 := World.rowIs.drew r_t3
  replace r_t4 := World.rowIs.drew r_t4
  replace r_t5 := World.rowIs.drew r_t5
  replace r_t6 := World.rowIs.drew r_t6
  replace r_t7 := World.rowIs.drew r_t7
  replace r_t8 := World.rowIs.drew r_t8
  replace r_t9 := World.rowIs.drew r_t9
  replace r_t10 := World.rowIs.drew r_t10
  clear Bw24
  refine zpo [] (.rd 0 (.rd 1 (.rd 2 .done))) #[true, true, true, false, false, false, false] [3, 4, 5, 6] [some 36, some 37, some 11, none] [[], [0], [], [0, 1, 2]] [(0, []), (1, []), (2, []), (3, [1, 2]), (4, [0, 3, 3]), (5, []), (6, [5, 4, 4, 0, 1, 2, 3, 4, 5])] 7 ?_
  refine zld (feF D) arrFe r_t5 rfl (fun i hi => by rw [Nat.zero_add]) rfl rfl rfl rfl rfl (by omega) ?_
  refine zld (feF (mulP X V)) arrFe r_t9 rfl (fun i hi => by rw [Nat.zero_add]) rfl rfl rfl rfl rfl (by omega) ?_
  refine zld (feF (mulP Y Q)) arrFe r_t10 rfl (fun i hi => by rw [Nat.zero_add]) rfl rfl rfl rfl rfl (by omega) ?_
  simp only [Act.put, zA, zB, zC]
  refine lintz_leaf ?_
  refine po_start [.val (.agg (arrOf 16 (feF (mulP (mulP X V) (mulP Y Q))))), .val (.agg (arrOf 16 (feF (mulP D (mulP (mulP X V) (mulP Y Q)))))), .row 61 16 (u64f fun _ => 0) 3 (feF (mulP D (mulP (mulP X V) (mulP Y Q)))), .nil] [] (fun i hi => absurd hi (Nat.not_lt_zero _)) (fun HWF m gz wa p az hp hm hmp hcl hdn hE hJ hS hO => ?_) (fun gz wa hE hJ => ?_)
  · rcases (show p = 0 ∨ p = 1 ∨ p = 2 ∨ p = 3 by have h9 : p < 4 := hp; omega) with rfl | rfl | rfl | rfl
    · have e34 : az.eval (.tmp 34) = .agg (arrOf 16 (feF (mulP X V))) := hO 34 rfl
      have e35 : az.eval (.tmp 35) = .agg (arrOf 16 (feF (mulP Y Q))) := hO 35 rfl
      exact po_k HWF hJ hE (refMul5_any (mulP X V) (mulP Y Q) _ (mulP_lt _ _) (mulP_lt _ _)) rfl rfl rfl rfl rfl rfl (ar2 e34 e35)
    · have e33 : az.eval (.tmp 33) = .agg (arrOf 16 (feF D)) := hO 33 rfl
      exact po_k HWF hJ hE (refMul5_any D (mulP (mulP X V) (mulP Y Q)) _ HD.out (mulP_lt _ _)) rfl rfl rfl rfl rfl rfl (ar2 e33 (po_e hS hdn hJ 0 36 rfl rfl rfl rfl))
    · exact po_alloc 11 _ 61 16 (u64f fun _ => 0) _ _ HWF hJ rfl (po_notyet hcl hmp (by rw [hm]; exact hp) (by decide)) hE rfl rfl rfl rfl rfl rfl zeroFe
    · exact po_sr 2 hm hp hmp hdn hJ hE rfl rfl rfl rfl rfl rfl rfl rfl (po_e0 hS hdn 2 11 rfl rfl rfl) (po_e hS hdn hJ 1 37 rfl rfl rfl rfl) arrFe (fun _ _ => rfl)
  · obtain ⟨b_t11, p_t11, lk_t11, r_t11, d_t11⟩ := hJ.row 2 (by decide) rfl (by decide)
    rw [putO_true _ _ _ _ _ rfl]
    simp only [putA, Nat.zero_add, Nat.reduceAdd]
    rw [hJ.tt 0 rfl, hJ.tt 1 rfl, p_t11]
    simp only [Act.put, zA, zB, zC]
    refine po_end ?_
    have n_t3_t11 := zrn r_t3 lk_t11
    have n_t4_t11 := zrn r_t4 lk_t11
    have n_t5_t11 := zrn r_t5 lk_t11
    have n_t6_t11 := zrn r_t6 lk_t11
    have n_t7_t11 := zrn r_t7 lk_t11
    have n_t8_t11 := zrn r_t8 lk_t11
    have n_t9_t11 := zrn r_t9 lk_t11
    have n_t10_t11 := zrn r_t10 lk_t11
    have l_t11 := zrl HGS Bw25 lk_t11
    replace r_t3 := Keep.row hE r_t3 rfl
    replace r_t4 := Keep.row hE r_t4 rfl
    replace r_t5 := Keep.row hE r_t5 rfl
    replace r_t6 := Keep.row hE r_t6 rfl
    replace r_t7 := Keep.row hE r_t7 rfl
    replace r_t8 := Keep.row hE r_t8 rfl
    replace r_t9 := Keep.row hE r_t9 rfl
    replace r_t10 := Keep.row hE r_t10 rfl
    have Bw26 := hE.below Bw25 (HGS.out _ Bw25) rfl
    clear Bw25 hE hJ p_t11 lk_t11 d_t11
    go_wp2_with (first
      | (have hgo := Bw26; clear hgo
         refine wpList_load_as rfl 61 (.tmp 8) rfl 16 (feF (mulP (mulP Z T) (mulP Z T))) arrFe r_t8 rfl (by omega) (fun i hi => by rw [Nat.zero_add]) ?_
         have Bw27 := Bw26
         clear Bw26)
      | (have hgo := Bw27; clear hgo
         refine wpList_load_as rfl 61 (.tmp 11) rfl 16 (feF (mulP D (mulP (mulP X V) (mulP Y Q)))) arrFe r_t11 rfl (by omega) (fun i hi => by rw [Nat.zero_add]) ?_
         have Bw28 := Bw27
         clear Bw27)
      | (have hgo := Bw28; clear hgo
         go_at_call 96
         refine (refSub_any (mulP (mulP Z T) (mulP Z T)) (mulP D (mulP (mulP X V) (mulP Y Q))) _ (mulP_lt _ _) (mulP_lt _ _)).mono ?_
         rintro e w33 ⟨rfl, kk⟩
         replace r_t3 := zrb r_t3 kk
         replace r_t4 := zrb r_t4 kk
         replace r_t5 := zrb r_t5 kk
         replace r_t6 := zrb r_t6 kk
         replace r_t7 := zrb r_t7 kk
         replace r_t8 := zrb r_t8 kk
         replace r_t9 := zrb r_t9 kk
         replace r_t10 := zrb r_t10 kk
         replace r_t11 := zrb r_t11 kk
         have Bw29 := zbt HGS Bw28 kk
         clear Bw28 kk)
      | (have hgo := Bw29; clear hgo
         refine wpList_alloc_row rfl 61 rfl 16 (u64f fun _ => 0) zeroFe ?_
         intro b_t12 w34 lk r_t12 kk
         have n_t3_t12 := zrn r_t3 lk
         have n_t4_t12 := zrn r_t4 lk
         have n_t5_t12 := zrn r_t5 lk
         have n_t6_t12 := zrn r_t6 lk
         have n_t7_t12 := zrn r_t7 lk
         have n_t8_t12 := zrn r_t8 lk
         have n_t9_t12 := zrn r_t9 lk
         have n_t10_t12 := zrn r_t10 lk
         have n_t11_t12 := zrn r_t11 lk
         have l_t12 := zrl HGS Bw29 lk
         replace r_t3 := zrb r_t3 kk
         replace r_t4 := zrb r_t4 kk
         replace r_t5 := zrb r_t5 kk
         replace r_t6 := zrb r_t6 kk
         replace r_t7 := zrb r_t7 kk
         replace r_t8 := zrb r_t8 kk
         replace r_t9 := zrb r_t9 kk
         replace r_t10 := zrb r_t10 kk
         replace r_t11 := zrb r_t11 kk
         have Bw30 := zbt HGS Bw29 kk
         clear Bw29 kk lk)
      | (have hgo := Bw30; clear hgo
         refine wpList_store_as rfl 61 (.tmp 12) (.tmp 40) rfl 16 (feF (subP p25 (mulP (mulP Z T) (mulP Z T)) (mulP D (mulP (mulP X V) (mulP Y Q))))) arrFe r_t12 rfl rfl (by omega) (fun _ _ => rfl) (fun i hi => putN_whole hi) ?_
         intro w35 q gk
         replace r_t3 := gb_rowIs r_t3 gk n_t3_t12
         replace r_t4 := gb_rowIs r_t4 gk n_t4_t12
         replace r_t5 := gb_rowIs r_t5 gk n_t5_t12
         replace r_t6 := gb_rowIs r_t6 gk n_t6_t12
         replace r_t7 := gb_rowIs r_t7 gk n_t7_t12
         replace r_t8 := gb_rowIs r_t8 gk n_t8_t12
         replace r_t9 := gb_rowIs r_t9 gk n_t9_t12
         replace r_t10 := gb_rowIs r_t10 gk n_t10_t12
         replace r_t11 := gb_rowIs r_t11 gk n_t11_t12
         replace r_t12 := q
         have Bw31 := zbg HGS Bw30 gk l_t12
         clear Bw30 gk q)
      | (have hgo := Bw31; clear hgo
         refine wpList_load_as rfl 61 (.tmp 8) rfl 16 (feF (mulP (mulP Z T) (mulP Z T))) arrFe r_t8 rfl (by omega) (fun i hi => by rw [Nat.zero_add]) ?_
         have Bw32 := Bw31
         clear Bw31)
      | (have hgo := Bw32; clear hgo
         refine wpList_load_as rfl 61 (.tmp 11) rfl 16 (feF (mulP D (mulP (mulP X V) (mulP Y Q)))) arrFe r_t11 rfl (by omega) (fun i hi => by rw [Nat.zero_add]) ?_
         have Bw33 := Bw32
         clear Bw32)
      | (have hgo := Bw33; clear hgo
         go_at_call 97
         refine (refAdd5_any (mulP (mulP Z T) (mulP Z T)) (mulP D (mulP (mulP X V) (mulP Y Q))) _ (mulP_lt _ _) (mulP_lt _ _)).mono ?_
         rintro e w38 ⟨rfl, kk⟩
         replace r_t3 := zrb r_t3 kk
         replace r_t4 := zrb r_t4 kk
         replace r_t5 := zrb r_t5 kk
         replace r_t6 := zrb r_t6 kk
         replace r_t7 := zrb r_t7 kk
         replace r_t8 := zrb r_t8 kk
         replace r_t9 := zrb r_t9 kk
         replace r_t10 := zrb r_t10 kk
         replace r_t11 := zrb r_t11 kk
         replace r_t12 := zrb r_t12 kk
         have Bw34 := zbt HGS Bw33 kk
         clear Bw33 kk)
      | (have hgo := Bw34; clear hgo
         refine wpList_alloc_row rfl 61 rfl 16 (u64f fun _ => 0) zeroFe ?_
         intro b_t13 w39 lk r_t13 kk
         have n_t3_t13 := zrn r_t3 lk
         have n_t4_t13 := zrn r_t4 lk
         have n_t5_t13 := zrn r_t5 lk
         have n_t6_t13 := zrn r_t6 lk
         have n_t7_t13 := zrn r_t7 lk
         have n_t8_t13 := zrn r_t8 lk
         have n_t9_t13 := zrn r_t9 lk
         have n_t10_t13 := zrn r_t10 lk
         have n_t11_t13 := zrn r_t11 lk
         have n_t12_t13 := zrn r_t12 lk
         have l_t13 := zrl HGS Bw34 lk
         replace r_t3 := zrb r_t3 kk
         replace r_t4 := zrb r_t4 kk
         replace r_t5 := zrb r_t5 kk
         replace r_t6 := zrb r_t6 kk
         replace r_t7 := zrb r_t7 kk
         replace r_t8 := zrb r_t8 kk
         replace r_t9 := zrb r_t9 kk
         replace r_t10 := zrb r_t10 kk
         replace r_t11 := zrb r_t11 kk
         replace r_t12 := zrb r_t12 kk
         have Bw35 := zbt HGS Bw34 kk
         clear Bw34 kk lk)
      | (have hgo := Bw35; clear hgo
         refine wpList_store_as rfl 61 (.tmp 13) (.tmp 43) rfl 16 (feF (addP (mulP (mulP Z T) (mulP Z T)) (mulP D (mulP (mulP X V) (mulP Y Q))))) arrFe r_t13 rfl rfl (by omega) (fun _ _ => rfl) (fun i hi => putN_whole hi) ?_
         intro w40 q gk
         replace r_t3 := gb_rowIs r_t3 gk n_t3_t13
         replace r_t4 := gb_rowIs r_t4 gk n_t4_t13
         replace r_t5 := gb_rowIs r_t5 gk n_t5_t13
         replace r_t6 := gb_rowIs r_t6 gk n_t6_t13
         replace r_t7 := gb_rowIs r_t7 gk n_t7_t13
         replace r_t8 := gb_rowIs r_t8 gk n_t8_t13
         replace r_t9 := gb_rowIs r_t9 gk n_t9_t13
         replace r_t10 := gb_rowIs r_t10 gk n_t10_t13
         replace r_t11 := gb_rowIs r_t11 gk n_t11_t13
         replace r_t12 := gb_rowIs r_t12 gk n_t12_t13
         replace r_t13 := q
         have Bw36 := zbg HGS Bw35 gk l_t13
         clear Bw35 gk q))
    have Bw37 := Bw36.drew
    replace r_t3 := World.rowIs.drew r_t3
    replace r_t4 := World.rowIs.drew r_t4
    replace r_t5 := World.rowIs.drew r_t5
    replace r_t6 := World.rowIs.drew r_t6
    replace r_t7 := World.rowIs.drew r_t7
    replace r_t8 := World.rowIs.drew r_t8
    replace r_t9 := World.rowIs.drew r_t9
    replace r_t10 := World.rowIs.drew r_t10
    replace r_t11 := World.rowIs.drew r_t11
    replace r_t12 := World.rowIs.drew r_t12
    replace r_t13 := World.rowIs.drew r_t13
    clear Bw36
    refine zpo [] (.rd 0 (.rd 1 (.rd 2 (.rd 3 (.rd 5 (.rd 6 (.rd 7 (.rd 8 .done)))))))) #[true, true, true, true, false, true, true, true, true, false, false, false, false] [4, 9, 10, 11, 12] [some 48, some 53, some 54, some 14, none] [[], [0], [0, 1], [], [0, 1, 2, 3]] [(0, []), (1, [0]), (2, []), (3, [2]), (4, [1, 3]), (5, []), (6, [5]), (7, []), (8, [7]), (9, [6, 8, 4]), (10, [4, 9, 9]), (11, []), (12, [11, 10, 10, 0, 1, 2, 3, 4, 5, 6, 7, 8, 9, 10, 11])] 495 ?_
    refine lintz_pure 44 _ _ (.pointer (some ⟨b_t3, 0, none⟩)) rfl rfl rfl rfl rfl (fun w0 hb => by unfold mkOp; go_simp; all_goals (with_reducible rfl)) ?_
    simp only [Act.put, zA, zB, zC]
    refine zld (feF X) arrFe r_t3 rfl (fun i hi => ptF_x _ _ _ i hi) rfl rfl rfl rfl rfl (by omega) ?_
    simp only [Act.put, zA, zB, zC]
    refine lintz_pure 46 _ _ (.pointer (some ⟨b_t4, 16, none⟩)) rfl rfl rfl rfl rfl (fun w0 hb => by unfold mkOp; go_simp; all_goals (with_reducible rfl)) ?_
    simp only [Act.put, zA, zB, zC]
    refine zld (feF Q) arrFe r_t4 rfl (fun i hi => ptF_y _ _ _ i hi) rfl rfl rfl rfl rfl (by omega) ?_
    simp only [Act.put, zA, zB, zC]
    refine lintz_pure 49 _ _ (.pointer (some ⟨b_t4, 0, none⟩)) rfl rfl rfl rfl rfl (fun w0 hb => by unfold mkOp; go_simp; all_goals (with_reducible rfl)) ?_
    simp only [Act.put, zA, zB, zC]
    refine zld (feF V) arrFe r_t4 rfl (fun i hi => ptF_x _ _ _ i hi) rfl rfl rfl rfl rfl (by omega) ?_
    simp only [Act.put, zA, zB, zC]
    refine lintz_pure 51 _ _ (.pointer (some ⟨b_t3, 16, none⟩)) rfl rfl rfl rfl rfl (fun w0 hb => by unfold mkOp; go_simp; all_goals (with_reducible rfl)) ?_
    simp only [Act.put, zA, zB, zC]
    refine zld (feF Y) arrFe r_t3 rfl (fun i hi => ptF_y _ _ _ i hi) rfl rfl rfl rfl rfl (by omega) ?_
    simp only [Act.put, zA, zB, zC]
    refine lintz_leaf ?_
    refine po_start [.val (.agg (arrOf 16 (feF (mulP X Q)))), .val (.agg (arrOf 16 (feF (mulP V Y)))), .val (.agg (arrOf 16 (feF (addP (mulP X Q) (mulP V Y))))), .row 61 16 (u64f fun _ => 0) 4 (feF (addP (mulP X Q) (mulP V Y))), .nil] [] (fun i hi => absurd hi (Nat.not_lt_zero _)) (fun HWF m gz wa p az hp hm hmp hcl hdn hE hJ hS hO => ?_) (fun gz wa hE hJ => ?_)
    · rcases (show p = 0 ∨ p = 1 ∨ p = 2 ∨ p = 3 ∨ p = 4 by have h9 : p < 5 := hp; omega) with rfl | rfl | rfl | rfl | rfl
      · have e45 : az.eval (.tmp 45) = .agg (arrOf 16 (feF X)) := hO 45 rfl
        have e47 : az.eval (.tmp 47) = .agg (arrOf 16 (feF Q)) := hO 47 rfl
        exact po_k HWF hJ hE (refMul5_any X Q _ HX.out HQ.out) rfl rfl rfl rfl rfl rfl (ar2 e45 e47)
      · have e50 : az.eval (.tmp 50) = .agg (arrOf 16 (feF V)) := hO 50 rfl
        have e52 : az.eval (.tmp 52) = .agg (arrOf 16 (feF Y)) := hO 52 rfl
        exact po_k HWF hJ hE (refMul5_any V Y _ HV.out HY.out) rfl rfl rfl rfl rfl rfl (ar2 e50 e52)
      · exact po_k HWF hJ hE (refAdd5_any (mulP X Q) (mulP V Y) _ (mulP_lt _ _) (mulP_lt _ _)) rfl rfl rfl rfl rfl rfl (ar2 (po_e hS hdn hJ 0 48 rfl rfl rfl rfl) (po_e hS hdn hJ 1 53 rfl rfl rfl rfl))
      · exact po_alloc 14 _ 61 16 (u64f fun _ => 0) _ _ HWF hJ rfl (po_notyet hcl hmp (by rw [hm]; exact hp) (by decide)) hE rfl rfl rfl rfl rfl rfl zeroFe
      · exact po_sr 3 hm hp hmp hdn hJ hE rfl rfl rfl rfl rfl rfl rfl rfl (po_e0 hS hdn 3 14 rfl rfl rfl) (po_e hS hdn hJ 2 54 rfl rfl rfl rfl) arrFe (fun _ _ => rfl)
    · obtain ⟨b_t14, p_t14, lk_t14, r_t14, d_t14⟩ := hJ.row 3 (by decide) rfl (by decide)
      rw [putO_true _ _ _ _ _ rfl]
      simp only [putA, Nat.zero_add, Nat.reduceAdd]
      rw [hJ.tt 0 rfl, hJ.tt 1 rfl, hJ.tt 2 rfl, p_t14]
      simp only [Act.put, zA, zB, zC]
      refine po_end ?_
      have n_t3_t14 := zrn r_t3 lk_t14
      have n_t4_t14 := zrn r_t4 lk_t14
      have n_t5_t14 := zrn r_t5 lk_t14
      have n_t6_t14 := zrn r_t6 lk_t14
      have n_t7_t14 := zrn r_t7 lk_t14
      have n_t8_t14 := zrn r_t8 lk_t14
      have n_t9_t14 := zrn r_t9 lk_t14
      have n_t10_t14 := zrn r_t10 lk_t14
      have n_t11_t14 := zrn r_t11 lk_t14
      have n_t12_t14 := zrn r_t12 lk_t14
      have n_t13_t14 := zrn r_t13 lk_t14
      have l_t14 := zrl HGS Bw37 lk_t14
      replace r_t3 := Keep.row hE r_t3 rfl
      replace r_t4 := Keep.row hE r_t4 rfl
      replace r_t5 := Keep.row hE r_t5 rfl
      replace r_t6 := Keep.row hE r_t6 rfl
      replace r_t7 := Keep.row hE r_t7 rfl
      replace r_t8 := Keep.row hE r_t8 rfl
      replace r_t9 := Keep.row hE r_t9 rfl
      replace r_t10 := Keep.row hE r_t10 rfl
      replace r_t11 := Keep.row hE r_t11 rfl
      replace r_t12 := Keep.row hE r_t12 rfl
      replace r_t13 := Keep.row hE r_t13 rfl
      have Bw38 := hE.below Bw37 (HGS.out _ Bw37) rfl
      clear Bw37 hE hJ p_t14 lk_t14 d_t14
      go_wp2
      have Bw39 := Bw38.drew
      replace r_t3 := World.rowIs.drew r_t3
      replace r_t4 := World.rowIs.drew r_t4
      replace r_t5 := World.rowIs.drew r_t5
      replace r_t6 := World.rowIs.drew r_t6
      replace r_t7 := World.rowIs.drew r_t7
      replace r_t8 := World.rowIs.drew r_t8
      replace r_t9 := World.rowIs.drew r_t9
      replace r_t10 := World.rowIs.drew r_t10
      replace r_t11 := World.rowIs.drew r_t11
      replace r_t12 := World.rowIs.drew r_t12
      replace r_t13 := World.rowIs.drew r_t13
      replace r_t14 := World.rowIs.drew r_t14
      clear Bw38
      refine zpo [b_t6] (.rd 0 (.rd 1 (.rd 3 (.rd 5 (.rd 6 (.rd 8 (.rd 9 (.rd 12 (.rd 13 .done))))))))) #[true, true, false, true, false, true, true, false, true, true, false, false, true, true, false, false, false] [2, 4, 7, 10, 11, 14, 15, 16] [some 57, some 59, some 62, some 65, some 66, some 69, some 70, none] [[], [0], [1], [2], [2, 3], [4], [1, 4, 5], [0, 1, 2, 3, 4, 5, 6]] [(0, []), (1, []), (2, [0, 1]), (3, []), (4, [2, 3, 2]), (5, []), (6, []), (7, [5, 6, 4]), (8, []), (9, []), (10, [8, 9, 7]), (11, [7, 10, 10]), (12, []), (13, []), (14, [12, 13, 11]), (15, [4, 11, 14]), (16, [15, 14, 0, 1, 2, 3, 4, 5, 6, 7, 8, 9, 10, 11, 12, 13, 14, 15])] 13163 ?_
      refine zld (feF (mulP Z T)) arrFe r_t7 (cont1 (Ne.symm n_t6_t7)) (fun i hi => by rw [Nat.zero_add]) rfl rfl rfl rfl rfl (by omega) ?_
      refine zld (feF (subP p25 (mulP (mulP Z T) (mulP Z T)) (mulP D (mulP (mulP X V) (mulP Y Q))))) arrFe r_t12 (cont1 (Ne.symm n_t6_t12)) (fun i hi => by rw [Nat.zero_add]) rfl rfl rfl rfl rfl (by omega) ?_
      refine zld (feF (addP (mulP X Q) (mulP V Y))) arrFe r_t14 (cont1 (Ne.symm n_t6_t14)) (fun i hi => by rw [Nat.zero_add]) rfl rfl rfl rfl rfl (by omega) ?_
      simp only [Act.put, zA, zB, zC]
      refine zld (feF (mulP Z T)) arrFe r_t7 (cont1 (Ne.symm n_t6_t7)) (fun i hi => by rw [Nat.zero_add]) rfl rfl rfl rfl rfl (by omega) ?_
      refine zld (feF (addP (mulP (mulP Z T) (mulP Z T)) (mulP D (mulP (mulP X V) (mulP Y Q))))) arrFe r_t13 (cont1 (Ne.symm n_t6_t13)) (fun i hi => by rw [Nat.zero_add]) rfl rfl rfl rfl rfl (by omega) ?_
      refine zld (feF (mulP Y Q)) arrFe r_t10 (cont1 (Ne.symm n_t6_t10)) (fun i hi => by rw [Nat.zero_add]) rfl rfl rfl rfl rfl (by omega) ?_
      simp only [Act.put, zA, zB, zC]
      refine zld (feF (mulP X V)) arrFe r_t9 (cont1 (Ne.symm n_t6_t9)) (fun i hi => by rw [Nat.zero_add]) rfl rfl rfl rfl rfl (by omega) ?_
      refine zld (feF (subP p25 (mulP (mulP Z T) (mulP Z T)) (mulP D (mulP (mulP X V) (mulP Y Q))))) arrFe r_t12 (cont1 (Ne.symm n_t6_t12)) (fun i hi => by rw [Nat.zero_add]) rfl rfl rfl rfl rfl (by omega) ?_
      refine zld (feF (addP (mulP (mulP Z T) (mulP Z T)) (mulP D (mulP (mulP X V) (mulP Y Q))))) arrFe r_t13 (cont1 (Ne.symm n_t6_t13)) (fun i hi => by rw [Nat.zero_add]) rfl rfl rfl rfl rfl (by omega) ?_
      simp only [Act.put, zA, zB, zC]
      refine lintz_leaf ?_
      refine po_start [.val (.agg (arrOf 16 (feF (mulP (mulP Z T) (subP p25 (mulP (mulP Z T) (mulP Z T)) (mulP D (mulP (mulP X V) (mulP Y Q)))))))), .val (.agg (arrOf 16 (feF (mulP (mulP (mulP Z T) (subP p25 (mulP (mulP Z T) (mulP Z T)) (mulP D (mulP (mulP X V) (mulP Y Q))))) (addP (mulP X Q) (mulP V Y)))))), .val (.agg (arrOf 16 (feF (mulP (mulP Z T) (addP (mulP (mulP Z T) (mulP Z T)) (mulP D (mulP (mulP X V) (mulP Y Q)))))))), .val (.agg (arrOf 16 (feF (addP (mulP Y Q) (mulP X V))))), .val (.agg (arrOf 16 (feF (mulP (mulP (mulP Z T) (addP (mulP (mulP Z T) (mulP Z T)) (mulP D (mulP (mulP X V) (mulP Y Q))))) (addP (mulP Y Q) (mulP X V)))))), .val (.agg (arrOf 16 (feF (mulP (subP p25 (mulP (mulP Z T) (mulP Z T)) (mulP D (mulP (mulP X V) (mulP Y Q)))) (addP (mulP (mulP Z T) (mulP Z T)) (mulP D (mulP (mulP X V) (mulP Y Q)))))))), .val (.agg (arrOf 48 (ptF (mulP (mulP (mulP Z T) (subP p25 (mulP (mulP Z T) (mulP Z T)) (mulP D (mulP (mulP X V) (mulP Y Q))))) (addP (mulP X Q) (mulP V Y))) (mulP (mulP (mulP Z T) (addP (mulP (mulP Z T) (mulP Z T)) (mulP D (mulP (mulP X V) (mulP Y Q))))) (addP (mulP Y Q) (mulP X V))) (mulP (subP p25 (mulP (mulP Z T) (mulP Z T)) (mulP D (mulP (mulP X V) (mulP Y Q)))) (addP (mulP (mulP Z T) (mulP Z T)) (mulP D (mulP (mulP X V) (mulP Y Q)))))))), .nil] [⟨b_t6, 63, 48, (u64f fun _ => 0), 7, (ptF (mulP (mulP (mulP Z T) (subP p25 (mulP (mulP Z T) (mulP Z T)) (mulP D (mulP (mulP X V) (mulP Y Q))))) (addP (mulP X Q) (mulP V Y))) (mulP (mulP (mulP Z T) (addP (mulP (mulP Z T) (mulP Z T)) (mulP D (mulP (mulP X V) (mulP Y Q))))) (addP (mulP Y Q) (mulP X V))) (mulP (subP p25 (mulP (mulP Z T) (mulP Z T)) (mulP D (mulP (mulP X V) (mulP Y Q)))) (addP (mulP (mulP Z T) (mulP Z T)) (mulP D (mulP (mulP X V) (mulP Y Q))))))⟩] (fun i hi => by obtain rfl : i = 0 := by { have h9 : i < 1 := hi; omega }; exact r_t6) (fun HWF m gz wa p az hp hm hmp hcl hdn hE hJ hS hO => ?_) (fun gz wa hE hJ => ?_)
      · rcases (show p = 0 ∨ p = 1 ∨ p = 2 ∨ p = 3 ∨ p = 4 ∨ p = 5 ∨ p = 6 ∨ p = 7 by have h9 : p < 8 := hp; omega) with rfl | rfl | rfl | rfl | rfl | rfl | rfl | rfl
        · have e55 : az.eval (.tmp 55) = .agg (arrOf 16 (feF (mulP Z T))) := hO 55 rfl
          have e56 : az.eval (.tmp 56) = .agg (arrOf 16 (feF (subP p25 (mulP (mulP Z T) (mulP Z T)) (mulP D (mulP (mulP X V) (mulP Y Q)))))) := hO 56 rfl
          exact po_k HWF hJ hE (refMul5_any (mulP Z T) (subP p25 (mulP (mulP Z T) (mulP Z T)) (mulP D (mulP (mulP X V) (mulP Y Q)))) _ (mulP_lt _ _) (subP_lt _ _)) rfl rfl rfl rfl rfl rfl (ar2 e55 e56)
        · have e58 : az.eval (.tmp 58) = .agg (arrOf 16 (feF (addP (mulP X Q) (mulP V Y)))) := hO 58 rfl
          exact po_k HWF hJ hE (refMul5_any (mulP (mulP Z T) (subP p25 (mulP (mulP Z T) (mulP Z T)) (mulP D (mulP (mulP X V) (mulP Y Q))))) (addP (mulP X Q) (mulP V Y)) _ (mulP_lt _ _) (addP_lt _ _)) rfl rfl rfl rfl rfl rfl (ar2 (po_e hS hdn hJ 0 57 rfl rfl rfl rfl) e58)
        · have e60 : az.eval (.tmp 60) = .agg (arrOf 16 (feF (mulP Z T))) := hO 60 rfl
          have e61 : az.eval (.tmp 61) = .agg (arrOf 16 (feF (addP (mulP (mulP Z T) (mulP Z T)) (mulP D (mulP (mulP X V) (mulP Y Q)))))) := hO 61 rfl
          exact po_k HWF hJ hE (refMul5_any (mulP Z T) (addP (mulP (mulP Z T) (mulP Z T)) (mulP D (mulP (mulP X V) (mulP Y Q)))) _ (mulP_lt _ _) (addP_lt _ _)) rfl rfl rfl rfl rfl rfl (ar2 e60 e61)
        · have e63 : az.eval (.tmp 63) = .agg (arrOf 16 (feF (mulP Y Q))) := hO 63 rfl
          have e64 : az.eval (.tmp 64) = .agg (arrOf 16 (feF (mulP X V))) := hO 64 rfl
          exact po_k HWF hJ hE (refAdd5_any (mulP Y Q) (mulP X V) _ (mulP_lt _ _) (mulP_lt _ _)) rfl rfl rfl rfl rfl rfl (ar2 e63 e64)
        · exact po_k HWF hJ hE (refMul5_any (mulP (mulP Z T) (addP (mulP (mulP Z T) (mulP Z T)) (mulP D (mulP (mulP X V) (mulP Y Q))))) (addP (mulP Y Q) (mulP X V)) _ (mulP_lt _ _) (addP_lt _ _)) rfl rfl rfl rfl rfl rfl (ar2 (po_e hS hdn hJ 2 62 rfl rfl rfl rfl) (po_e hS hdn hJ 3 65 rfl rfl rfl rfl))
        · have e67 : az.eval (.tmp 67) = .agg (arrOf 16 (feF (subP p25 (mulP (mulP Z T) (mulP Z T)) (mulP D (mulP (mulP X V) (mulP Y Q)))))) := hO 67 rfl
          have e68 : az.eval (.tmp 68) = .agg (arrOf 16 (feF (addP (mulP (mulP Z T) (mulP Z T)) (mulP D (mulP (mulP X V) (mulP Y Q)))))) := hO 68 rfl
          exact po_k HWF hJ hE (refMul5_any (subP p25 (mulP (mulP Z T) (mulP Z T)) (mulP D (mulP (mulP X V) (mulP Y Q)))) (addP (mulP (mulP Z T) (mulP Z T)) (mulP D (mulP (mulP X V) (mulP Y Q)))) _ (subP_lt _ _) (addP_lt _ _)) rfl rfl rfl rfl rfl rfl (ar2 e67 e68)
        · have e59 := po_e hS hdn hJ 1 59 rfl rfl rfl rfl
          have e66 := po_e hS hdn hJ 4 66 rfl rfl rfl rfl
          have e69 := po_e hS hdn hJ 5 69 rfl rfl rfl rfl
          exact po_p _ HWF hJ hE rfl rfl rfl rfl rfl rfl rfl (exec_build_as _ _ _ (by simp only [List.map_toArray, List.map_cons, List.map_nil, e59, e66, e69]; exact builtP (mulP (mulP (mulP Z T) (subP p25 (mulP (mulP Z T) (mulP Z T)) (mulP D (mulP (mulP X V) (mulP Y Q))))) (addP (mulP X Q) (mulP V Y))) (mulP (mulP (mulP Z T) (addP (mulP (mulP Z T) (mulP Z T)) (mulP D (mulP (mulP X V) (mulP Y Q))))) (addP (mulP Y Q) (mulP X V))) (mulP (subP p25 (mulP (mulP Z T) (mulP Z T)) (mulP D (mulP (mulP X V) (mulP Y Q)))) (addP (mulP (mulP Z T) (mulP Z T)) (mulP D (mulP (mulP X V) (mulP Y Q)))))))
        · exact po_storeOld 0 (.tmp 6) (.tmp 70) 63 b_t6 48 _ (by rw [hm]; exact hp) hmp hJ rfl (show 0 < 1 by decide) rfl rfl rfl rfl rfl (World.rowIs.lt r_t6) (by simp) (by kernel_rfl) po_ne1 hE rfl rfl rfl rfl rfl (hO 6 rfl) (po_e hS hdn hJ 6 70 rfl rfl rfl rfl) arrP (fun j _ => ptF_one _ _ _ j)
      · rw [putO_true _ _ _ _ _ rfl]
        simp only [putA, Nat.zero_add, Nat.reduceAdd]
        rw [hJ.tt 0 rfl, hJ.tt 1 rfl, hJ.tt 2 rfl, hJ.tt 3 rfl, hJ.tt 4 rfl, hJ.tt 5 rfl, hJ.tt 6 rfl]
        simp only [Act.put, zA, zB, zC]
        refine po_end ?_
        replace r_t3 := Keep.row hE r_t3 (cont1 n_t3_t6)
        replace r_t4 := Keep.row hE r_t4 (cont1 n_t4_t6)
        replace r_t5 := Keep.row hE r_t5 (cont1 n_t5_t6)
        replace r_t6 : wa.rowIs b_t6 63 48 (ptF (mulP (mulP (mulP Z T) (subP p25 (mulP (mulP Z T) (mulP Z T)) (mulP D (mulP (mulP X V) (mulP Y Q))))) (addP (mulP X Q) (mulP V Y))) (mulP (mulP (mulP Z T) (addP (mulP (mulP Z T) (mulP Z T)) (mulP D (mulP (mulP X V) (mulP Y Q))))) (addP (mulP Y Q) (mulP X V))) (mulP (subP p25 (mulP (mulP Z T) (mulP Z T)) (mulP D (mulP (mulP X V) (mulP Y Q)))) (addP (mulP (mulP Z T) (mulP Z T)) (mulP D (mulP (mulP X V) (mulP Y Q)))))) := hJ.old 0 (show 0 < 1 by decide) (show 7 < 8 by decide)
        replace r_t7 := Keep.row hE r_t7 (cont1 (Ne.symm n_t6_t7))
        replace r_t8 := Keep.row hE r_t8 (cont1 (Ne.symm n_t6_t8))
        replace r_t9 := Keep.row hE r_t9 (cont1 (Ne.symm n_t6_t9))
        replace r_t10 := Keep.row hE r_t10 (cont1 (Ne.symm n_t6_t10))
        replace r_t11 := Keep.row hE r_t11 (cont1 (Ne.symm n_t6_t11))
        replace r_t12 := Keep.row hE r_t12 (cont1 (Ne.symm n_t6_t12))
        replace r_t13 := Keep.row hE r_t13 (cont1 (Ne.symm n_t6_t13))
        replace r_t14 := Keep.row hE r_t14 (cont1 (Ne.symm n_t6_t14))
        have Bw40 := hE.below Bw39 (HGS.out _ Bw39) (keep_all1 l_t6)
        clear Bw39 hE hJ 
        go_wp2
        exact ret_cell_as _ rfl arrP r_t6 rfl (by omega) (fun _ _ => rfl) rfl ⟨rfl, Bw40⟩
theorem refPadd_v (D X Y Z V Q T : Nat) (w : World) {x y z : Nat} (h : padd D (X, Y, Z) (V, Q, T) = (x, y, z)) (HD : D < p25) (HX : X < p25) (HY : Y < p25) (HZ : Z < p25) (HV : V < p25) (HQ : Q < p25) (HT : T < p25) :
    Calls Tryz.prog 81 #[.agg (arrOf 48 (ptF X Y Z)), .agg (arrOf 48 (ptF V Q T)), .agg (arrOf 16 (feF D))] w fun e w' => e = .returned (.agg (arrOf 48 (ptF x y z))) ∧ Below w.heap.size w w' := by
  have g := refPadd_any X Y Z V Q T D w HX HY HZ HV HQ HT HD
  rw [h] at g
  exact g
theorem padd_vlt {D : Nat} {a b : Nat × Nat × Nat} {x y z : Nat} (h : padd D a b = (x, y, z)) : x < p25 ∧ y < p25 ∧ z < p25 := by
  have g := padd_lt D a b
  rw [h] at g
  exact g
end Go.Proofs.YtonhpmaiagbheaaGreat

/- Pieces of bytes, rows of bytes in open worlds: one operation at a time. -/
namespace Go.Proofs.YtonhpmaiagbheaaGreat
open Go.RowKit Go.Deep
set_option linter.unusedSimpArgs false
set_option linter.unusedVariables false

theorem run_toB {P : Program} (w : World) (ty elem : TypeId) (ad : Option Addr) (n cap k : Nat) (hu : P.underlying ty = some (.slice elem)) (hi : (P.info? elem).map (fun i => i.size) = some 1) (hk : k ≤ cap) :
    (Instr.sliceAt ty (.slice ad n cap) none (some (.int .i64 (k : Int))) none).run P w = .ok (.slice ad k cap) w := by
  cases hq : P.info? elem with
  | none => simp [hq] at hi
  | some i =>
    have hs : i.size = 1 := by simpa [hq] using hi
    have hb := run_bound_in (P := P) w .i64 k cap .sliceAcap hk
    have hx : ∀ x : Addr, x.add 0 = x := fun x => by unfold Addr.add; simp
    by_cases hc : cap = 0
    · subst hc
      simp [Instr.sliceAt, run_underlying hu w, Instr.slice, Instr.sliceBounds, sizeOf, typeInfo, hq, hs, hb, Result.andThen]
    · simp [Instr.sliceAt, run_underlying hu w, Instr.slice, Instr.sliceBounds, sizeOf, typeInfo, hq, hs, hc, hb, Result.andThen]
      cases ad with
      | none => rfl
      | some x => simp [hx]
/-- 's[:k]': a slice that reads as the first k bytes, whatever the world in which it is cut. -/
theorem takeB {w : World} {v : Value} {l : List UInt8} (h : Bs w v l) (k : Nat) (hk : k ≤ l.length) :
    ∃ v', Bs w v' (l.take k) ∧ ∀ (ρ : Operand → Value) (x hi : Operand) (t : TypeId) (w0 : World), ρ x = v → ρ hi = .int .i64 (k : Int) → (execOp ρ (mkOp (.slice 22 x none (some hi) none) t)).run Tryz.prog w0 = .ok (.value v') w0 := by
  obtain ⟨ad, n, cap, rfl, hn, hc1, hc2, hB⟩ := h.shape
  refine ⟨_, hB.take (k := k) (by omega), fun ρ x hi t w0 hx hh => ?_⟩
  simp [execOp, mkOp, hx, hh, run_toB (P := Tryz.prog) w0 22 5 ad n cap k Tryz.underlying22 (by kernel_rfl) (by omega), Result.andThen]
/-- 's[k:]'. -/
theorem dropB {w : World} {v : Value} {l : List UInt8} (h : Bs w v l) (k : Nat) (hk : k ≤ l.length) :
    ∃ v', Bs w v' (l.drop k) ∧ ∀ (ρ : Operand → Value) (x lo : Operand) (t : TypeId) (w0 : World), ρ x = v → ρ lo = .int .i64 (k : Int) → (execOp ρ (mkOp (.slice 22 x (some lo) none none) t)).run Tryz.prog w0 = .ok (.value v') w0 := by
  obtain ⟨ad, n, cap, rfl, hn, hc1, hc2, hB⟩ := h.shape
  refine ⟨_, hB.drop (k := k) (by omega), fun ρ x lo t w0 hx hh => ?_⟩
  simp [execOp, mkOp, hx, hh, run_sliceFrom (P := Tryz.prog) w0 22 5 ad n cap k .i64 Tryz.underlying22 (by kernel_rfl) (by omega), Result.andThen]
theorem Bss.threeP {w : World} {v1 v2 v3 : Value} {l1 l2 l3 : List UInt8} (h1 : Bs w v1 l1) (h2 : Bs w v2 l2) (h3 : Bs w v3 l3) {n : Nat} (hn : w.heap.size = n) : Bss (w.alloc (.cells #[v1, v2, v3] 22)) (.slice (some ⟨n, 0, none⟩) 3 3) [l1, l2, l3] := by
  subst hn
  have hb : Below w.heap.size w (w.alloc (.cells #[v1, v2, v3] 22)) := (Below.refl _ _).alloc (Nat.le_refl _) _
  refine ⟨_, 3, rfl, by simp, by simp [maxLen], (fun h => by cases h), fun x hx i hi => ?_⟩
  cases hx
  match i, hi with
  | 0, _ =>
    refine ⟨by simp, v1, ?_, h1.below hb (Nat.le_refl _)⟩
    rw [add_eq]
    exact World.cell?_alloc_mark w #[v1, v2, v3] 22 (0, 0) 0
  | 1, _ =>
    refine ⟨by simp, v2, ?_, h2.below hb (Nat.le_refl _)⟩
    rw [add_eq]
    exact World.cell?_alloc_mark w #[v1, v2, v3] 22 (0, 0) 1
  | 2, _ =>
    refine ⟨by simp, v3, ?_, h3.below hb (Nat.le_refl _)⟩
    rw [add_eq]
    exact World.cell?_alloc_mark w #[v1, v2, v3] 22 (0, 0) 2
theorem exec_rowsP2 (ρ : Operand → Value) (x y : Operand) (t : TypeId) (w : World) {v1 v2 : Value} {l1 l2 : List UInt8} (h1 : Bs w v1 l1) (h2 : Bs w v2 l2) (hx : ρ x = v1) (hy : ρ y = v2) :
    (execOp ρ (mkOp (.buildSlice 23 2 #[(0, x), (1, y)]) t)).run Tryz.prog w = .ok (.value (.slice (some ⟨w.heap.size, 0, none⟩) 2 2)) (w.alloc (.cells #[v1, v2] 22)) := by
  obtain ⟨a1, c1, rfl, _⟩ := h1
  obtain ⟨a2, c2, rfl, _⟩ := h2
  exact exec_rows2 ρ x y t w a1 a2 _ c1 _ c2 hx hy
theorem exec_rowsP3 (ρ : Operand → Value) (x y z : Operand) (t : TypeId) (w : World) {v1 v2 v3 : Value} {l1 l2 l3 : List UInt8} (h1 : Bs w v1 l1) (h2 : Bs w v2 l2) (h3 : Bs w v3 l3) (hx : ρ x = v1) (hy : ρ y = v2) (hz : ρ z = v3) :
    (execOp ρ (mkOp (.buildSlice 23 3 #[(0, x), (1, y), (2, z)]) t)).run Tryz.prog w = .ok (.value (.slice (some ⟨w.heap.size, 0, none⟩) 3 3)) (w.alloc (.cells #[v1, v2, v3] 22)) := by
  obtain ⟨a1, c1, rfl, _⟩ := h1
  obtain ⟨a2, c2, rfl, _⟩ := h2
  obtain ⟨a3, c3, rfl, _⟩ := h3
  simp only [execOp, mkOp, List.map_toArray, List.map_cons, List.map_nil, hx, hy, hz]
  go_simp
theorem wpList_rows2 {ops : Array Oper} {rest : List Oper} {o : Oper} {a : Act} {w : World} {Q : Exit → Act → World → Prop} (hgd : o.guard = none) (x y : Operand) (ho : o.op = .buildSlice 23 2 #[(0, x), (1, y)]) {v1 v2 : Value} {l1 l2 : List UInt8} (h1 : Bs w v1 l1) (h2 : Bs w v2 l2) (hx : a.eval x = v1) (hy : a.eval y = v2)
    (h : ∀ v w', Bss w' v [l1, l2] → Below w.heap.size w w' → wpList Tryz.prog ops Q rest (a.put o.dst v) w') : wpList Tryz.prog ops Q (o :: rest) a w := by
  have hr := exec_rowsP2 a.eval x y o.type w h1 h2 hx hy
  exact wpList_plain hgd fun _ hK => by
    unfold Oper.wp
    rw [exec_mkOp, ho, hr]
    exact hK _ _ (h _ _ (Bss.two h1 h2 rfl) ((Below.refl _ _).alloc (Nat.le_refl _) _))
theorem wpList_rows3 {ops : Array Oper} {rest : List Oper} {o : Oper} {a : Act} {w : World} {Q : Exit → Act → World → Prop} (hgd : o.guard = none) (x y z : Operand) (ho : o.op = .buildSlice 23 3 #[(0, x), (1, y), (2, z)]) {v1 v2 v3 : Value} {l1 l2 l3 : List UInt8} (h1 : Bs w v1 l1) (h2 : Bs w v2 l2) (h3 : Bs w v3 l3) (hx : a.eval x = v1) (hy : a.eval y = v2) (hz : a.eval z = v3)
    (h : ∀ v w', Bss w' v [l1, l2, l3] → Below w.heap.size w w' → wpList Tryz.prog ops Q rest (a.put o.dst v) w') : wpList Tryz.prog ops Q (o :: rest) a w := by
  have hr := exec_rowsP3 a.eval x y z o.type w h1 h2 h3 hx hy hz
  exact wpList_plain hgd fun _ hK => by
    unfold Oper.wp
    rw [exec_mkOp, ho, hr]
    exact hK _ _ (h _ _ (Bss.threeP h1 h2 h3 rfl) ((Below.refl _ _).alloc (Nat.le_refl _) _))
theorem Owns.one (w : World) (b : UInt8) : Owns (w.alloc (.cells #[.int .u8 (b.toNat : Int)] 5)) w.heap.size (.slice (some ⟨w.heap.size, 0, none⟩) 1 1) [b] :=
  Owns.of_row (f := fun _ => .int .u8 (b.toNat : Int)) (rowIs_arr w 1 (fun _ => .int .u8 (b.toNat : Int)) 5) (Nat.le_refl _) (by decide) rfl (fun i hi => by
    have h : i = 0 := by simp at hi; omega
    subst h
    rfl)
theorem Owns.belowJ {w w' : World} {base : Nat} {v : Value} {l : List UInt8} (h : Owns w base v l) (hb : Below w.heap.size w w') : Owns w' base v l := by
  obtain ⟨h1, h2⟩ := h
  refine ⟨h1, ?_⟩
  rcases h2 with h2 | ⟨g, cap, cur, rfl, hbg, hg, h3⟩
  · exact .inl h2
  · exact .inr ⟨g, cap, cur, rfl, hbg, (hb.block g (Array.getElem?_eq_some_iff.1 hg).1).trans hg, h3⟩
theorem ret_cell_as_tmp {P : Program} {a : Act} {w : World} {fn : Func} {R : Ending → World → Prop} {p q : Tmp} {ty : TypeId} {k b m : Nat} {t : TypeId} {f : Nat → Value} {v : Value} (Fv : Nat → Value) (h : fn.results = #[.cell p ty, .tmp q]) (ht : IsArr P ty k)
    (hr : w.rowIs b t m f) (hp : a.tmps.getD p undef = .pointer (some ⟨b, 0, none⟩)) (hq : a.tmps.getD q undef = v) (hk : k ≤ m) (hF : ∀ i, i < k → f i = Fv i) (hd : a.defers = []) (hR : R (.returned (.tuple #[.agg (arrOf k Fv), v])) w) : bodyPost P fn R .ret a w :=
  ret_cell_arr_tmp h ht hr hp hq (by omega) hd (by rw [arrOf_congr (g := Fv) fun i hi => by rw [Nat.zero_add]; exact hF i hi]; exact hR)
theorem bs_cell {W : World} {gb off n c : Nat} {l : List UInt8} (h : Bs W (.slice (some ⟨gb, off, none⟩) n c) l) (i : Nat) (hi : i < l.length) : W.cell? ⟨gb, off + i, none⟩ = some (.int .u8 ((l[i].toNat : Nat) : Int)) := by
  obtain ⟨_, _, he, _, _, _, hc9⟩ := h
  injection he with he1 he2 he3
  have h10 := (hc9 _ he1.symm i hi).2
  rwa [add_eq] at h10
end Go.Proofs.YtonhpmaiagbheaaGreat

/- The forms of a number: its bytes with the highest bit set, the bytes of p and a small number; what Strict and Of read of them. -/
set_option linter.unusedSimpArgs false
set_option linter.unusedVariables false
namespace Go.Proofs.YtonhpmaiagbheaaGreat
open Go.RowKit Go.Deep

theorem litB_at (V n i : Nat) (h : i < (litB V n).length) : (litB V n)[i] = UInt8.ofNat (V / 256 ^ i) := by
  rw [← getD_at _ i h]
  exact litB_getD V n i (by rwa [litB_length] at h)
theorem litB_set (V U i : Nat) (hsame : ∀ j, j < 32 → j ≠ i → V / 256 ^ j % 256 = U / 256 ^ j % 256) : (litB V 32).set i (UInt8.ofNat (U / 256 ^ i)) = litB U 32 := by
  refine List.ext_getElem (by simp [litB_length]) fun j h1 h2 => ?_
  rw [List.getElem_set]
  rw [litB_at U 32 j h2]
  split
  · subst j; rfl
  · rw [litB_at]
    apply UInt8.toNat_inj.1
    simp only [UInt8.toNat_ofNat']
    rw [litB_length] at h2
    exact hsame j h2 (by omega)
theorem high_same (A j : Nat) (hj : j < 31) : A / 256 ^ j % 256 = (A + top) / 256 ^ j % 256 := by
  have h1 : (256 : Nat) ^ j * 256 * 256 ^ (30 - j) = 256 ^ 31 := by
    rw [← Nat.pow_succ, ← Nat.pow_add]
    congr 1
    omega
  have h2 : top = 256 ^ j * (256 * (256 ^ (30 - j) * 128)) := by
    have h3 : top = 256 ^ 31 * 128 := by decide +kernel
    rw [h3, ← h1]
    simp only [Nat.mul_assoc]
  rw [h2, Nat.add_mul_div_left _ _ (pow256_pos j), Nat.add_mul_mod_self_left]
/-- The highest bit set. -/
theorem high_set (A : Nat) : (litB A 32).set 31 (UInt8.ofNat ((A + top) / 256 ^ 31)) = litB (A + top) 32 :=
  litB_set A (A + top) 31 fun j h1 h2 => high_same A j (by omega)
theorem high_lt (A : Nat) (h : A < p25) : A / 256 ^ 31 < 128 := by
  rw [Nat.div_lt_iff_lt_mul (pow256_pos 31)]
  exact Nat.lt_of_lt_of_le h (by decide +kernel)
theorem high_byte (A : Nat) : (A + top) / 256 ^ 31 = A / 256 ^ 31 + 128 := by
  have h3 : top = 256 ^ 31 * 128 := by decide +kernel
  rw [h3, Nat.add_mul_div_left _ _ (pow256_pos 31)]
theorem high_old (A : Nat) (h : A < p25) : (UInt8.ofNat (A / 256 ^ 31)).toNat = A / 256 ^ 31 := UInt8.toNat_ofNat_of_lt' (Nat.lt_trans (high_lt A h) (by decide))
theorem high_new (A : Nat) (h : A < p25) : (UInt8.ofNat ((A + top) / 256 ^ 31)).toNat = A / 256 ^ 31 + 128 := by
  rw [high_byte]
  have := high_lt A h
  exact UInt8.toNat_ofNat_of_lt' (Nat.lt_of_lt_of_le (Nat.add_lt_add_right this 128) (by decide))
theorem or_128 (q : Nat) (h : q < 128) : bits .or .u8 (q : Int) 128 = ((q + 128 : Nat) : Int) := by
  have g : ∀ q : Fin 128, bits .or .u8 ((q.val : Nat) : Int) 128 = ((q.val + 128 : Nat) : Int) := by decide +kernel
  exact g ⟨q, h⟩
theorem top_two : 256 ^ 32 = 2 * top := by decide +kernel
theorem numL_lit (V : Nat) (h : V < 2 * top) : numL (litB V 32) 32 = V := by
  rw [numL_litB V 32 32 (Nat.le_refl _), Nat.mod_eq_of_lt (by rw [top_two]; exact h)]
end Go.Proofs.YtonhpmaiagbheaaGreat

/- Points and their forms, in numbers: what 32 bytes stand for, and back. -/
set_option linter.unusedSimpArgs false
set_option linter.unusedVariables false
namespace Go.Proofs.YtonhpmaiagbheaaGreat

def decS (Y : Nat) : Nat := mulP (subP p25 (mulP Y Y) 1) (invP (addP (mulP dP (mulP Y Y)) 1))
/-- The even x of y, if there is one. -/
def decX (Y : Nat) : Option Nat := rootL p25 t25 (decS Y)
/-- The point that the bytes stand for. -/
def decN (l : List UInt8) : Option (Nat × Nat) :=
  if l.length = 32 ∧ numL l 32 % top < p25 then
    (decX (numL l 32 % top)).bind fun x => if numL l 32 / top = 1 ∧ x = 0 then none else some (if numL l 32 / top = 1 then oppP x else x, numL l 32 % top)
  else none
/-- A point's form. -/
def encN (P : Nat × Nat) : Nat := P.2 + P.1 % 2 * top

theorem decS_lt (Y : Nat) : decS Y < p25 := mulP_lt _ _
theorem one_ltp : 1 < p25 := by decide +kernel
theorem v_ne (Y : Nat) : ¬ Z ((addP (mulP dP (mulP Y Y)) 1 : Nat) : Int) := fun h => by
  have h1 := Z_addP (mulP dP (mulP Y Y)) 1
  have h2 := Z_mulP dP (mulP Y Y)
  have h3 := Z_mulP Y Y
  have hd := d_c
  refine c_sqn (Y : Int) ?_
  generalize ((addP (mulP dP (mulP Y Y)) 1 : Nat) : Int) = v at *
  generalize ((mulP dP (mulP Y Y) : Nat) : Int) = m at *
  generalize ((mulP Y Y : Nat) : Int) = s at *
  generalize ((dP : Nat) : Int) = d at *
  generalize (Y : Int) = y at *
  generalize cE = c at *
  have k : Z (c + y * y - (c * v - y * y * (c * d - 1))) := by
    have e1 : Z (v - (d * s + 1)) := Z.lin2 1 1 h1 h2 (by grind)
    exact Z.lin2 (-c) (-(c * d)) e1 h3 (by grind)
  exact Z.lin3 1 c (-(y * y)) k h hd (by grind)
/-- What decX takes the root of, told without a quotient. -/
theorem decS_Z (Y : Nat) : Z ((decS Y : Int) * ((dP : Int) * ((Y : Int) * Y) + 1) - ((Y : Int) * Y - 1)) := by
  have hv := v_ne Y
  have h1 := Z_addP (mulP dP (mulP Y Y)) 1
  have h2 := Z_mulP dP (mulP Y Y)
  have h3 := Z_mulP Y Y
  have h4 := Z_subP (mulP Y Y) 1
  have h5 := Z_invP (addP_lt (mulP dP (mulP Y Y)) 1) hv
  have h6 := Z_mulP (subP p25 (mulP Y Y) 1) (invP (addP (mulP dP (mulP Y Y)) 1))
  have e : (mulP (subP p25 (mulP Y Y) 1) (invP (addP (mulP dP (mulP Y Y)) 1)) : Nat) = decS Y := rfl
  rw [e] at h6
  generalize ((decS Y : Nat) : Int) = q at *
  generalize ((invP (addP (mulP dP (mulP Y Y)) 1) : Nat) : Int) = i at *
  generalize ((addP (mulP dP (mulP Y Y)) 1 : Nat) : Int) = v at *
  generalize ((subP p25 (mulP Y Y) 1 : Nat) : Int) = u at *
  generalize ((mulP dP (mulP Y Y) : Nat) : Int) = m at *
  generalize ((mulP Y Y : Nat) : Int) = s at *
  generalize ((dP : Nat) : Int) = d at *
  generalize (Y : Int) = y at *
  have e1 : Z (v - (d * (y * y) + 1)) := Z.lin3 1 1 d h1 h2 h3 (by grind)
  have e2 : Z (u - (y * y - 1)) := Z.lin2 1 1 h4 h3 (by grind)
  have e3 : Z (q * v - u) := Z.lin2 v u h6 h5 (by grind)
  exact Z.lin3 1 1 (-q) e3 e2 e1 (by grind)
/-- On the curve just if x squared is it. -/
theorem onE_decS {x Y : Nat} (hx : x < p25) (hY : Y < p25) : onE (x, Y) ↔ mulP x x = decS Y := by
  have h1 := decS_Z Y
  have h2 := Z_mulP x x
  have hd := d_c
  have hc := c_ne
  have hn := v_ne Y
  have ha := Z_addP (mulP dP (mulP Y Y)) 1
  have hm := Z_mulP dP (mulP Y Y)
  have hs := Z_mulP Y Y
  constructor
  · rintro ⟨_, _, h⟩
    unfold EC at h
    refine Z.eq (mulP_lt _ _) (decS_lt _) ?_
    dsimp only at h
    generalize ((addP (mulP dP (mulP Y Y)) 1 : Nat) : Int) = v at *
    generalize ((mulP dP (mulP Y Y) : Nat) : Int) = m at *
    generalize ((mulP Y Y : Nat) : Int) = s at *
    generalize ((decS Y : Nat) : Int) = q at *
    generalize ((mulP x x : Nat) : Int) = z at *
    generalize ((dP : Nat) : Int) = d at *
    generalize (x : Int) = X at *
    generalize (Y : Int) = y at *
    generalize cE = c at *
    have ev : Z (v - (d * (y * y) + 1)) := Z.lin3 1 1 d ha hm hs (by grind)
    -- c v (x x - q) = 0
    have k1 : Z (c * ((X * X) * (d * (y * y) + 1) - (y * y - 1))) := Z.lin2 1 (X * X * (y * y)) h hd (by grind)
    have k2 : Z ((X * X) * (d * (y * y) + 1) - (y * y - 1)) := Z.cancel k1 hc
    have k3 : Z (v * (z - q)) := by
      have k4 : Z (z * (d * (y * y) + 1) - (y * y - 1)) := Z.lin2 1 (d * (y * y) + 1) k2 h2 (by grind)
      have k5 : Z ((d * (y * y) + 1) * (z - q)) := Z.lin2 1 (-1) k4 h1 (by grind)
      exact Z.lin2 1 (z - q) k5 ev (by grind)
    exact Z.cancel k3 hn
  · intro h
    refine ⟨hx, hY, ?_⟩
    unfold EC
    dsimp only
    rw [h] at h2
    generalize ((decS Y : Nat) : Int) = q at *
    generalize ((dP : Nat) : Int) = d at *
    generalize (x : Int) = X at *
    generalize (Y : Int) = y at *
    generalize cE = c at *
    have k2 : Z ((X * X) * (d * (y * y) + 1) - (y * y - 1)) := Z.lin2 1 (-(d * (y * y) + 1)) h1 h2 (by grind)
    exact Z.lin2 c (-(X * X * (y * y))) k2 hd (by grind)
theorem decX_some {Y x : Nat} (hY : Y < p25) (h : decX Y = some x) : onE (x, Y) ∧ x % 2 = 0 := by
  obtain ⟨h1, h2, h3⟩ := rootL_some prime_p25 t25_eq (decS_lt Y) h
  exact ⟨(onE_decS h3 hY).2 h1, h2⟩
theorem decX_of {x Y : Nat} (h : onE (x, Y)) : ∃ r, decX Y = some r ∧ (r = x ∨ r = oppP x) ∧ r % 2 = 0 ∧ r < p25 := by
  have h1 := (onE_decS h.1 h.2.1).1 h
  obtain ⟨r, hr, _, h3, h4, h5⟩ := root_square x h.1
  rw [h1] at hr
  exact ⟨r, hr, h5, h3, h4⟩
theorem oppP_odd {x : Nat} (hx : x < p25) (h0 : x ≠ 0) : oppP x % 2 = 1 - x % 2 := by
  have e : oppP x = p25 - x := by
    unfold oppP subP negP
    rw [Nat.zero_add, Nat.mod_mod, Nat.mod_eq_of_lt hx, Nat.mod_eq_of_lt (by omega)]
  have hp : p25 % 2 = 1 := by decide +kernel
  rw [e]
  omega
theorem top_pos' : 0 < top := by decide +kernel
theorem p25_ltop : p25 < top := by decide +kernel
theorem decN_some {l : List UInt8} {P : Nat × Nat} (h : decN l = some P) : l.length = 32 ∧ onE P ∧ encN P = numL l 32 := by
  unfold decN at h
  split at h
  · rename_i hc
    obtain ⟨hl, hY⟩ := hc
    refine ⟨hl, ?_⟩
    cases hx : decX (numL l 32 % top) with
    | none => rw [hx] at h; cases h
    | some x =>
      rw [hx, Option.bind_some] at h
      obtain ⟨hE, he⟩ := decX_some hY hx
      have hn : numL l 32 < 256 ^ 32 := numL_lt l 32
      rw [top_two] at hn
      have hdm := Nat.div_add_mod (numL l 32) top
      have hq : numL l 32 / top < 2 := by rw [Nat.div_lt_iff_lt_mul top_pos']; exact hn
      split at h
      · cases h
      · rename_i hz
        have e := Option.some.inj h
        by_cases h1 : numL l 32 / top = 1
        · rw [if_pos h1] at e
          have hx0 : x ≠ 0 := fun hx0 => hz ⟨h1, hx0⟩
          have ho := oppP_odd hE.1 hx0
          subst e
          refine ⟨negE_on hE, ?_⟩
          unfold encN
          dsimp only
          rw [ho, he, show 1 - 0 = 1 from rfl, Nat.one_mul]
          rw [h1] at hdm
          omega
        · rw [if_neg h1] at e
          have h0 : numL l 32 / top = 0 := by
            clear hdm
            generalize numL l 32 / top = q at *
            omega
          subst e
          refine ⟨hE, ?_⟩
          unfold encN
          dsimp only
          rw [he, Nat.zero_mul]
          rw [h0] at hdm
          omega
  · cases h
end Go.Proofs.YtonhpmaiagbheaaGreat

/- A scalar's number as clamping makes it; the document's Clamp. -/
set_option linter.unusedSimpArgs false
set_option linter.unusedVariables false
namespace Go.Proofs.YtonhpmaiagbheaaGreat
open Go.RowKit Go.Deep

/-- The number of a clamped scalar. -/
def clampN (l : List UInt8) : Nat := numL l 32 % 2 ^ 254 / 8 * 8 + 2 ^ 254
def byteN (K i : Nat) : Nat := K / 256 ^ i % 256
theorem byteN_lt (K i : Nat) : byteN K i < 256 := Nat.mod_lt _ (by decide)
theorem byteN_numL (l : List UInt8) (i : Nat) (h : i < 32) : byteN (numL l 32) i = (l.getD i 0).toNat := numL_dig l 32 i h
theorem clamp_low (l : List UInt8) : byteN (clampN l) 0 = (l.getD 0 0).toNat / 8 * 8 := by
  rw [← byteN_numL l 0 (by decide)]
  unfold byteN clampN
  rw [Nat.pow_zero, Nat.div_one, Nat.div_one]
  have h8 : (2 : Nat) ^ 254 = 256 * 2 ^ 246 := by decide +kernel
  rw [h8]
  have h := Nat.mod_mul_right_mod (numL l 32) 256 (2 ^ 246)
  generalize (2 : Nat) ^ 246 = t at *
  generalize numL l 32 = N at *
  generalize N % (256 * t) = r at *
  omega
theorem clamp_mid (l : List UInt8) (i : Nat) (h0 : 0 < i) (h31 : i < 31) : byteN (clampN l) i = (l.getD i 0).toNat := by
  rw [← byteN_numL l i (by omega)]
  unfold byteN clampN
  obtain ⟨j, rfl⟩ : ∃ j, i = j + 1 := ⟨i - 1, by omega⟩
  have e : (2 : Nat) ^ 254 = 256 ^ (j + 1) * (256 * (256 ^ (29 - j) * 64)) := by
    have h1 : (256 : Nat) ^ (j + 1) * 256 * 256 ^ (29 - j) = 256 ^ 31 := by
      rw [← Nat.pow_succ, ← Nat.pow_add]
      congr 1
      omega
    have h3 : (2 : Nat) ^ 254 = 256 ^ 31 * 64 := by decide +kernel
    rw [h3, ← h1]
    simp only [Nat.mul_assoc]
  rw [e]
  generalize 256 ^ (29 - j) * 64 = t
  rw [Nat.add_mul_div_left _ _ (pow256_pos (j + 1)), Nat.add_mul_mod_self_left]
  have h2 : numL l 32 % (256 ^ (j + 1) * (256 * t)) / 8 * 8 / 256 ^ (j + 1) = numL l 32 % (256 ^ (j + 1) * (256 * t)) / 256 ^ (j + 1) := by
    generalize numL l 32 % (256 ^ (j + 1) * (256 * t)) = r
    have hp : (256 : Nat) ^ (j + 1) = 8 * (32 * 256 ^ j) := by rw [Nat.pow_succ]; omega
    rw [hp]
    generalize 32 * 256 ^ j = z
    rw [← Nat.div_div_eq_div_mul, ← Nat.div_div_eq_div_mul, Nat.mul_div_cancel _ (by decide)]
  rw [h2, Nat.mod_mul_right_div_self, Nat.mod_mul_right_mod]
theorem clamp_high (l : List UInt8) : byteN (clampN l) 31 = (l.getD 31 0).toNat % 64 + 64 := by
  rw [← byteN_numL l 31 (by decide)]
  unfold byteN clampN
  have e : (2 : Nat) ^ 254 = 256 ^ 31 * 64 := by decide +kernel
  have hp : (256 : Nat) ^ 31 = 8 * (32 * 256 ^ 30) := by decide +kernel
  have h2 : numL l 32 % (256 ^ 31 * 64) / 8 * 8 / 256 ^ 31 = numL l 32 % (256 ^ 31 * 64) / 256 ^ 31 := by
    generalize numL l 32 % (256 ^ 31 * 64) = r
    rw [hp]
    generalize 32 * 256 ^ 30 = z
    rw [← Nat.div_div_eq_div_mul, ← Nat.div_div_eq_div_mul, Nat.mul_div_cancel _ (by decide)]
  rw [e, Nat.add_mul_div_left _ _ (pow256_pos 31), h2, Nat.mod_mul_right_div_self]
  generalize numL l 32 / 256 ^ 31 = q
  omega
theorem and248N (x : Nat) (h : x < 256) : bits .and .u8 (x : Int) 248 = ((x / 8 * 8 : Nat) : Int) := by
  have g : ∀ q : Fin 256, bits .and .u8 ((q.val : Nat) : Int) 248 = ((q.val / 8 * 8 : Nat) : Int) := by decide +kernel
  exact g ⟨x, h⟩
theorem and127N (x : Nat) (h : x < 256) : bits .and .u8 (x : Int) 127 = ((x % 128 : Nat) : Int) := by
  have g : ∀ q : Fin 256, bits .and .u8 ((q.val : Nat) : Int) 127 = ((q.val % 128 : Nat) : Int) := by decide +kernel
  exact g ⟨x, h⟩
theorem or64N (x : Nat) (h : x < 256) : bits .or .u8 ((x % 128 : Nat) : Int) 64 = ((x % 64 + 64 : Nat) : Int) := by
  have g : ∀ q : Fin 256, bits .or .u8 ((q.val % 128 : Nat) : Int) 64 = ((q.val % 64 + 64 : Nat) : Int) := by decide +kernel
  exact g ⟨x, h⟩
theorem bit_at (K t : Nat) : byteN K (t / 8) / 2 ^ (t % 8) % 2 = K / 2 ^ t % 2 := by
  unfold byteN
  have e : K / 2 ^ t = K / 256 ^ (t / 8) / 2 ^ (t % 8) := by
    rw [Nat.div_div_eq_div_mul, show (256 : Nat) = 2 ^ 8 from rfl, ← Nat.pow_mul, ← Nat.pow_add]
    congr 2
    omega
  rw [e]
  generalize K / 256 ^ (t / 8) = A
  have hr : t % 8 < 8 := Nat.mod_lt _ (by decide)
  generalize t % 8 = r at hr
  rcases (show r = 0 ∨ r = 1 ∨ r = 2 ∨ r = 3 ∨ r = 4 ∨ r = 5 ∨ r = 6 ∨ r = 7 by omega) with rfl | rfl | rfl | rfl | rfl | rfl | rfl | rfl <;> omega
/-- The row of a number's bytes. -/
def kF (K : Nat) : Nat → Value := fun i => .int .u8 ((byteN K i : Nat) : Int)
set_option maxHeartbeats 1000000 in
theorem refClamp_any (v : Value) (l : List UInt8) (w : World) (hv : Bs w v l) :
    Calls Tryz.prog 33 #[v] w fun e w' => e = .returned (.slice (some ⟨w.heap.size, 0, none⟩) 32 32) ∧ w'.rowIs w.heap.size 5 32 (kF (clampN l)) ∧ Below w.heap.size w w' := by
  have HF := Lib.hid (refFillRow_any v l 32 w hv (by omega) (by omega))
  have e1 := clamp_low l
  have e2 := fun i => clamp_mid l i
  have e3 := clamp_high l
  obtain ⟨K, hK⟩ := nat_var (clampN l)
  rw [← hK] at e1 e2 e3 ⊢
  obtain ⟨x, hx⟩ := nat_var ((l.getD 0 0).toNat)
  obtain ⟨y, hy⟩ := nat_var ((l.getD 31 0).toNat)
  have hx1 : x < 256 := by rw [hx]; exact UInt8.toNat_lt _
  have hy1 : y < 256 := by rw [hy]; exact UInt8.toNat_lt _
  rw [← hx] at e1
  rw [← hy] at e3
  have a1 := and248N x hx1
  have a2 := and127N y hy1
  have a3 := or64N y hy1
  obtain ⟨x2, hx2⟩ := nat_var (x / 8 * 8)
  obtain ⟨y2, hy2⟩ := nat_var (y % 128)
  obtain ⟨y3, hy3⟩ := nat_var (y % 64 + 64)
  rw [← hx2] at a1 e1
  rw [← hy2] at a2 a3
  rw [← hy3] at a3 e3
  have HX := Lib.hid hx
  have HY := Lib.hid hy
  have H1 := Lib.hid e1
  have H2 := Lib.hid e2
  have H3 := Lib.hid e3
  clear hK hx hy hx1 hy1 hx2 hy2 hy3 e1 e2 e3 hv
  go_enter Tryz.func33, Tryz.ntmps33
  go_wp2_with (go_at_call 85; refine HF.out.mono ?_; rintro e w1 ⟨rfl, hr1, hb1⟩
               have hc0 := hr1.cell (i := 0) (by omega)
               have hf0 := hr1.frozen 0
               have hr2 := hr1.set 0 (.int .u8 (x2 : Int))
               have hc31 := hr2.cell (i := 31) (by omega)
               have hf31 := hr2.frozen 31
               have hr3 := hr2.set 31 (.int .u8 (y3 : Int))
               have hb3 := (hb1.setCell (p := ⟨w.heap.size, 0, none⟩) (Nat.le_refl _) (.int .u8 (x2 : Int))).setCell (p := ⟨w.heap.size, 31, none⟩) (Nat.le_refl _) (.int .u8 (y3 : Int))
               unfold bytesAt at hc0
               rw [← HX.out] at hc0
               rw [if_neg (by decide)] at hc31
               unfold bytesAt at hc31
               rw [← HY.out] at hc31
               clear hr1 hr2 hb1)
  go_ret
  refine ⟨rfl, hr3.congr fun i hi => ?_, hb3⟩
  unfold kF
  by_cases h31 : i = 31
  · subst h31
    rw [if_pos rfl, H3.out]
  · rw [if_neg h31]
    by_cases h0 : i = 0
    · subst h0
      rw [if_pos rfl, H1.out]
    · rw [if_neg h0, H2.out i (by omega) (by omega)]
      rfl
end Go.Proofs.YtonhpmaiagbheaaGreat

/- Operations on bytes, one at a time: quotients and remainders by 8, shifts, masks. -/
namespace Go.Proofs.YtonhpmaiagbheaaGreat
open Go.RowKit Go.Deep
set_option linter.unusedSimpArgs false
set_option linter.unusedVariables false

theorem wpList_quo8 {ops : Array Oper} {Q : Exit → Act → World → Prop} {a : Act} {w : World} {rest : List Oper} {o : Oper} (hgd : o.guard = none) (x y : Operand) (ho : o.op = .binOp .quo 3 x y 3) {t q : Nat}
    (hx : a.eval x = .int .i64 (t : Int)) (hy : a.eval y = .int .i64 8) (hq : q = t / 8) (ht : t < 1000) (h : wpList Tryz.prog ops Q rest (a.put o.dst (.int .i64 (q : Int))) w) : wpList Tryz.prog ops Q (o :: rest) a w := by
  refine wpList_value hgd (.int .i64 (q : Int)) ?_ h
  have h1 : IntKind.i64.wrap ((t : Int).tdiv 8) = (q : Int) := by
    rw [Int.tdiv_eq_ediv_of_nonneg (by omega), IntWalk.i64_in _ (by omega)]
    omega
  have h2 : IntKind.i64.wrap ((t : Int) / 8) = (q : Int) := by
    rw [IntWalk.i64_in _ (by omega)]
    omega
  clear hq h
  rw [exec_mkOp, ho]
  simp only [execOp, mkOp, hx, hy]
  go_simp
theorem wpList_rem8 {ops : Array Oper} {Q : Exit → Act → World → Prop} {a : Act} {w : World} {rest : List Oper} {o : Oper} (hgd : o.guard = none) (x y : Operand) (ho : o.op = .binOp .rem 3 x y 3) {t q : Nat}
    (hx : a.eval x = .int .i64 (t : Int)) (hy : a.eval y = .int .i64 8) (hq : q = t % 8) (ht : t < 1000) (h : wpList Tryz.prog ops Q rest (a.put o.dst (.int .i64 (q : Int))) w) : wpList Tryz.prog ops Q (o :: rest) a w := by
  refine wpList_value hgd (.int .i64 (q : Int)) ?_ h
  have h1 : (t : Int).tmod 8 = (q : Int) := by
    rw [Int.tmod_eq_emod_of_nonneg (by omega)]
    omega
  have h2 : IntKind.i64.wrap ((t : Int).tmod 8) = (q : Int) := by
    rw [h1, IntWalk.i64_in _ (by omega)]
  clear hq h
  rw [exec_mkOp, ho]
  simp only [execOp, mkOp, hx, hy]
  go_simp
theorem wpList_shr8 {ops : Array Oper} {Q : Exit → Act → World → Prop} {a : Act} {w : World} {rest : List Oper} {o : Oper} (hgd : o.guard = none) (x y : Operand) (ho : o.op = .binOp .shr 5 x y 3) {t r q : Nat}
    (hx : a.eval x = .int .u8 (t : Int)) (hy : a.eval y = .int .i64 (r : Int)) (hq : q = t / 2 ^ r) (hr : r < 8) (ht : t < 256) (h : wpList Tryz.prog ops Q rest (a.put o.dst (.int .u8 (q : Int))) w) : wpList Tryz.prog ops Q (o :: rest) a w := by
  refine wpList_value hgd (.int .u8 (q : Int)) ?_ h
  have h1 : (t : Int) / 2 ^ r = (q : Int) := by
    rw [hq]
    simp
  have h3 : IntKind.u8.wrap (q : Int) = (q : Int) := IntWalk.u8_in _ ⟨by omega, by have := Nat.div_le_self t (2 ^ r); omega⟩
  have h4 : ¬ ((r : Int) < 0) := by omega
  clear hq h
  rw [exec_mkOp, ho]
  simp only [execOp, mkOp, hx, hy]
  go_simp
theorem wpList_and1 {ops : Array Oper} {Q : Exit → Act → World → Prop} {a : Act} {w : World} {rest : List Oper} {o : Oper} (hgd : o.guard = none) (x y : Operand) (ho : o.op = .binOp .and 5 x y 5) {t q : Nat}
    (hx : a.eval x = .int .u8 (t : Int)) (hy : a.eval y = .int .u8 1) (hq : q = t % 2) (ht : t < 256) (h : wpList Tryz.prog ops Q rest (a.put o.dst (.int .u8 (q : Int))) w) : wpList Tryz.prog ops Q (o :: rest) a w := by
  refine wpList_value hgd (.int .u8 (q : Int)) ?_ h
  have h1 := bit_u8 t ht
  rw [← hq] at h1
  clear hq h
  rw [exec_mkOp, ho]
  simp only [execOp, mkOp, hx, hy]
  go_simp
theorem wpList_shr7 {ops : Array Oper} {Q : Exit → Act → World → Prop} {a : Act} {w : World} {rest : List Oper} {o : Oper} {ty : TypeId} (hgd : o.guard = none) (x y : Operand) (ho : o.op = .binOp .shr 5 x y ty) {t q : Nat}
    (hx : a.eval x = .int .u8 (t : Int)) (hy : a.eval y = .int .u64 7) (hq : q = t / 128) (ht : t < 256) (h : wpList Tryz.prog ops Q rest (a.put o.dst (.int .u8 (q : Int))) w) : wpList Tryz.prog ops Q (o :: rest) a w := by
  refine wpList_value hgd (.int .u8 (q : Int)) ?_ h
  have h1 : (t : Int) / 2 ^ 7 = (q : Int) := by omega
  have h2 : (t : Int) / 128 = (q : Int) := by omega
  have h3 : IntKind.u8.wrap (q : Int) = (q : Int) := IntWalk.u8_in _ ⟨by omega, by omega⟩
  clear hq h
  rw [exec_mkOp, ho]
  simp only [execOp, mkOp, hx, hy]
  go_simp
theorem wpList_shl1 {ops : Array Oper} {Q : Exit → Act → World → Prop} {a : Act} {w : World} {rest : List Oper} {o : Oper} {ty : TypeId} (hgd : o.guard = none) (x y : Operand) (ho : o.op = .binOp .shl 5 x y ty) {t q : Nat}
    (hx : a.eval x = .int .u8 (t : Int)) (hy : a.eval y = .int .u64 1) (hq : q = 2 * t % 256) (h : wpList Tryz.prog ops Q rest (a.put o.dst (.int .u8 (q : Int))) w) : wpList Tryz.prog ops Q (o :: rest) a w := by
  refine wpList_value hgd (.int .u8 (q : Int)) ?_ h
  have h1 : IntKind.u8.wrap ((t : Int) * 2 ^ 1) = (q : Int) := by rw [IntKind.wrap_u8]; omega
  have h2 : IntKind.u8.wrap ((t : Int) * 2) = (q : Int) := by rw [IntKind.wrap_u8]; omega
  clear hq h
  rw [exec_mkOp, ho]
  simp only [execOp, mkOp, hx, hy]
  go_simp
theorem or_even (s c : Nat) (hs : s < 256) (h2 : s % 2 = 0) (hc : c ≤ 1) : bits .or .u8 (s : Int) (c : Int) = ((s + c : Nat) : Int) := by
  have g : ∀ q : Fin 128, ∀ c : Fin 2, bits .or .u8 ((2 * q.val : Nat) : Int) ((c.val : Nat) : Int) = ((2 * q.val + c.val : Nat) : Int) := by decide +kernel
  have h := g ⟨s / 2, by omega⟩ ⟨c, by omega⟩
  simp only at h
  rwa [show 2 * (s / 2) = s by omega] at h
theorem wpList_or1 {ops : Array Oper} {Q : Exit → Act → World → Prop} {a : Act} {w : World} {rest : List Oper} {o : Oper} (hgd : o.guard = none) (x y : Operand) (ho : o.op = .binOp .or 5 x y 5) {t c q : Nat}
    (hx : a.eval x = .int .u8 (t : Int)) (hy : a.eval y = .int .u8 (c : Int)) (ht : t < 256) (h2 : t % 2 = 0) (hc : c ≤ 1) (hq : q = t + c) (h : wpList Tryz.prog ops Q rest (a.put o.dst (.int .u8 (q : Int))) w) : wpList Tryz.prog ops Q (o :: rest) a w := by
  refine wpList_value hgd (.int .u8 (q : Int)) ?_ h
  have h1 := or_even t c ht h2 hc
  rw [← hq] at h1
  clear hq h h2
  rw [exec_mkOp, ho]
  simp only [execOp, mkOp, hx, hy]
  go_simp
end Go.Proofs.YtonhpmaiagbheaaGreat

/- The document's points: the point that bytes stand for. -/
set_option linter.unusedSimpArgs false
set_option linter.unusedVariables false
namespace Go.Proofs.YtonhpmaiagbheaaGreat
open Go.RowKit Go.Deep

/-- What Decode strikes off. -/
def cutB (l : List UInt8) : List UInt8 := l.set 31 (UInt8.ofNat ((l.getD 31 0).toNat % 128))
theorem owns_cap {W : World} {base g n c : Nat} {l : List UInt8} (h : Owns W base (.slice (some ⟨g, 0, none⟩) n c) l) : n ≤ c := by
  obtain ⟨_, _, he, hc, _⟩ := h.bs
  injection he with he1 he2 he3
  subst he3
  subst he2
  exact hc
theorem builtFe0 : Tryz.prog.built 61 [] = some (arrOf 16 (feF 0)) := by kernel_rfl
theorem exec_zeroFe {w : World} (ρ : Operand → Value) (t : TypeId) : (execOp ρ (mkOp (.build 61 #[]) t)).run Tryz.prog w = .ok (.value (.agg (arrOf 16 (feF 0)))) w := by
  have hr := run_build w 61 #[] (arrOf 16 (feF 0)) builtFe0
  simp [execOp, mkOp, hr, Result.andThen]
theorem wpList_load_cat {ops : Array Oper} {rest : List Oper} {o : Oper} {a : Act} {w : World} {Q : Exit → Act → World → Prop} (hgd : o.guard = none) (x : Operand) (ho : o.op = .load 5 x) {ad : Addr} {q : Nat} (hc : w.cell? ad = some (.int .u8 (q : Int)))
    (hx : a.eval x = .pointer (some ad)) (h : wpList Tryz.prog ops Q rest (a.put o.dst (.int .u8 (q : Int))) w) : wpList Tryz.prog ops Q (o :: rest) a w := by
  refine wpList_value hgd _ ?_ h
  rw [exec_mkOp, ho]
  exact exec_load_cell a.eval 5 x o.type hx (by kernel_rfl) hc
theorem numL_cut (l : List UInt8) (h : l.length = 32) : numL (cutB l) 32 = numL l 32 % top ∧ numL l 32 / top = (l.getD 31 0).toNat / 128 := by
  have e1 : ∀ k, k ≤ 31 → numL (cutB l) k = numL l k := by
    intro k
    induction k with
    | zero => intro _; rfl
    | succ k ih =>
      intro hk
      rw [numL, numL, ih (by omega)]
      congr 2
      unfold cutB
      rw [List.getD_eq_getElem?_getD, List.getElem?_set_ne (by omega), List.getD_eq_getElem?_getD]
  have hq : (l.getD 31 0).toNat < 256 := UInt8.toNat_lt _
  have e2 : ((cutB l).getD 31 0).toNat = (l.getD 31 0).toNat % 128 := by
    unfold cutB
    rw [List.getD_eq_getElem?_getD, List.getElem?_set_self (by omega)]
    exact UInt8.toNat_ofNat_of_lt' (show _ % 128 < 256 by omega)
  have ht : top = 256 ^ 31 * 128 := by decide +kernel
  have hn := numL_lt l 31
  rw [show numL (cutB l) 32 = numL (cutB l) 31 + ((cutB l).getD 31 0).toNat * 256 ^ 31 from rfl, show numL l 32 = numL l 31 + (l.getD 31 0).toNat * 256 ^ 31 from rfl, e1 31 (Nat.le_refl _), e2, ht]
  generalize (l.getD 31 0).toNat = q at *
  generalize numL l 31 = n at *
  have hp : 0 < 256 ^ 31 := Nat.pow_pos (by decide)
  generalize 256 ^ 31 = t at *
  have hdm := Nat.div_add_mod q 128
  have hr : q % 128 < 128 := Nat.mod_lt _ (by decide)
  have hq2 : q / 128 < 2 := by omega
  generalize q / 128 = a at *
  generalize q % 128 = r at *
  have e3 : n + q * t = n + r * t + t * 128 * a := by
    rw [← hdm, Nat.add_mul]
    rw [Nat.mul_right_comm, Nat.mul_comm 128 t]
    omega
  have e4 : n + r * t < t * 128 := by
    have h5 : (r + 1) * t ≤ 128 * t := Nat.mul_le_mul_right t (by omega)
    rw [Nat.add_mul, Nat.one_mul] at h5
    rw [Nat.mul_comm t 128]
    omega
  constructor
  · rw [e3, Nat.add_mul_mod_self_left, Nat.mod_eq_of_lt e4]
  · rw [e3, Nat.add_mul_div_left _ _ (by omega), Nat.div_eq_of_lt e4, Nat.zero_add]
theorem strict_cut (l : List UInt8) (h : l.length = 32) : strictL (cutB l) = if numL l 32 % top < p25 then some (numL l 32 % top) else none := by
  rw [strictL_eq, (numL_cut l h).1]
  have hl : (cutB l).length = 32 := by unfold cutB; rw [List.length_set, h]
  by_cases hp : numL l 32 % top < p25
  · rw [if_pos ⟨hl, hp⟩, if_pos hp]
  · rw [if_neg (fun k => hp k.2), if_neg hp]
theorem refStrict_cut (v : Value) (l C : List UInt8) (Y : Nat) (w : World) (h : Bs w v C) (hC : C = cutB l) (hl : l.length = 32) (hY : numL l 32 % top = Y) (hYl : Y < p25) :
    Calls Tryz.prog 95 #[v] w fun e w' => e = .returned (.tuple #[.agg (arrOf 16 (feF Y)), .int .i64 0]) ∧ Below w.heap.size w w' := by
  have g := refStrict_any v C w h
  have e : strictL C = some Y := by rw [hC, strict_cut l hl, hY, if_pos hYl]
  rw [e] at g
  exact g
theorem refRoot_some (A x : Nat) (w : World) (hA : A < p25) (hx : rootL p25 t25 A = some x) : Calls Tryz.prog 98 #[.agg (arrOf 16 (feF A))] w fun e w' => e = .returned (.tuple #[.agg (arrOf 16 (feF x)), .int .i64 0]) ∧ Below w.heap.size w w' := by
  have g := refRoot_any A w hA
  rw [hx] at g
  exact g
theorem refRoot_none (A : Nat) (w : World) (hA : A < p25) (hx : rootL p25 t25 A = none) : Calls Tryz.prog 98 #[.agg (arrOf 16 (feF A))] w fun e w' => e = .returned (.tuple #[.agg (arrOf 16 (feF 0)), .int .i64 7]) ∧ Below w.heap.size w w' := by
  have g := refRoot_any A w hA
  rw [hx] at g
  exact g
end Go.Proofs.YtonhpmaiagbheaaGreat

/- The document's points: the point that bytes stand for, where y is below p. -/
namespace Go.Proofs.YtonhpmaiagbheaaGreat
open Go.RowKit Go.Deep
set_option linter.unusedSimpArgs false
set_option linter.unusedVariables false

set_option maxHeartbeats 4000000 in
set_option maxRecDepth 10000 in
theorem refDecode_r (v0 : Value) (l0 : List UInt8) (w : World) (h0 : Bs w v0 l0) (hl : l0.length = 32) (hYl : numL l0 32 % top < p25) (R : Value) (H3 : decX (numL l0 32 % top) = none → R = .tuple #[.agg (arrOf 48 (ptF 0 1 1)), .int .i64 12]) (H4 : ∀ x, decX (numL l0 32 % top) = some x → numL l0 32 / top = 1 → x = 0 → R = .tuple #[.agg (arrOf 48 (ptF 0 1 1)), .int .i64 12]) (H5 : ∀ x, decX (numL l0 32 % top) = some x → numL l0 32 / top = 0 → R = .tuple #[.agg (arrOf 48 (ptF x (numL l0 32 % top) 1)), .int .i64 0]) (H7 : ∀ x, decX (numL l0 32 % top) = some x → numL l0 32 / top = 1 → x ≠ 0 → R = .tuple #[.agg (arrOf 48 (ptF (oppP x) (numL l0 32 % top) 1)), .int .i64 0]) : Calls Tryz.prog 44 #[v0] w fun e w' => e = .returned R ∧ Below w.heap.size w w' := by
  have HYL := Lib.hid hYl
  have H3 := Lib.hid H3
  have H4 := Lib.hid H4
  have H5 := Lib.hid H5
  have H7 := Lib.hid H7
  clear hYl
  obtain ⟨gb, off, c0, rfl, y0, z0, hgb, hcells⟩ := h0.open_n hl (by decide)
  have HL := Lib.hid hl
  have HF0 := Lib.hid h0
  obtain ⟨q, hq⟩ := nat_var ((l0.getD 31 0).toNat)
  have hql : q < 256 := by rw [hq]; exact UInt8.toNat_lt _
  have a1 := and127N q hql
  obtain ⟨u, hu⟩ := nat_var (q % 128)
  rw [← hu] at a1
  have a2 : (q : Int) % 128 = (u : Int) := by omega
  have HUL : Hid (u < 256) := Lib.hid (by omega)
  have HQL := Lib.hid hql
  have HSG : Hid (numL l0 32 / top = q / 128) := Lib.hid (by rw [(numL_cut l0 hl).2, ← hq])
  have HCB : Hid (cutB l0 = l0.set 31 (UInt8.ofNat u)) := Lib.hid (by rw [hu, hq]; rfl)
  obtain ⟨CL, hCL⟩ : ∃ C, C = cutB l0 := ⟨_, rfl⟩
  have HCL := Lib.hid hCL
  rw [← hCL] at HCB
  have HQ : Hid (∀ h : 31 < l0.length, (l0[31]'h).toNat = q) := Lib.hid fun h => by rw [hq, List.getD_eq_getElem?_getD, List.getElem?_eq_getElem h]; rfl
  have HC31 : Hid (∀ W, Below w.heap.size w W → W.cell? ⟨gb, off + 31, none⟩ = some (.int .u8 (q : Int))) := Lib.hid fun W hW => (bs_cell (h0.below hW (Nat.le_refl _)) 31 (by rw [hl]; decide)).trans (by rw [HQ.out])
  clear hCL hq hql hu hcells h0 hl
  obtain ⟨Y, hYv⟩ := nat_var (numL l0 32 % top)
  have HYv : Hid (numL l0 32 % top = Y) := Lib.hid hYv.symm
  have HY : Hid (Y < p25) := Lib.hid (by rw [hYv]; exact HYL.out)
  clear hYv HYL
  have Bw0 := Below.refl w.heap.size w
  have HGS : Hid (∀ wq : World, Below w.heap.size w wq → w.heap.size ≤ wq.heap.size) := Lib.hid fun wq h => h.size
  go_enter Tryz.func44, Tryz.ntmps44
  go_wp2_with (first
    | (have hgo := Bw0; clear hgo
       refine wpList_alloc_row rfl 63 rfl 48 (u64f fun _ => 0) zeroPt ?_
       intro b_t2 w1 lk r_t2 kk
       have l_t2 := zrl HGS Bw0 lk
       have Bw1 := zbt HGS Bw0 kk
       clear Bw0 kk lk
       have O1 := Owns.empty w1
       have k1 := (Below.refl w1.heap.size w1).alloc (Nat.le_refl _) (.cells #[] 5)
       have F1 := (HF0.out.below Bw1 (Nat.le_refl _)).below k1 (Nat.le_refl _))
    | (have hgo := Bw1; clear hgo
       refine wpList_app rfl (.tmp 17) (.tmp 18) rfl w1.heap.size _ _ [] l0 O1 F1 rfl rfl (by simp [HL.out]) (by simp) ?_
       intro v2 w2 ho hgr
       obtain ⟨g, cap, hv, hg, hgs, _, _⟩ := (show Owns w2 w1.heap.size v2 l0 from ho).open_cons (by rw [HL.out]; decide)
       rw [HL.out] at hv
       subst hv
       have o2 : Owns w2 w1.heap.size (.slice (some ⟨g, 0, none⟩) 32 cap) l0 := ho
       have hcap := owns_cap o2
       have C2 := k1.grown hgr (by simp) (fun k hk => by simp [Value.ownBlock] at hk; omega)
       clear O1 F1 k1 ho hgr)
    | (refine wpList_load_byte rfl (.tmp 22) rfl 31 q o2 HL.out.symm (by rw [HL.out]; decide) rfl (HQ.out _) ?_)
    | (refine wpList_store_byte rfl (.tmp 25) (.tmp 24) rfl 31 u o2 HL.out.symm hcap (by rw [HL.out]; decide) rfl rfl HUL.out ?_
       intro w3 o3 g3
       have C3 := C2.grown g3 C2.size (by intro k hk; cases hk; exact hg)
       have Bw2 := Bw1.trans (C3.mono (HGS.out _ Bw1))
       replace r_t2 := World.rowIs.of_block r_t2 (C3.block _ (World.rowIs.lt r_t2))
       rw [← HCB.out] at o3
       have f_c := o3.bs
       clear o2 C2 C3 Bw1 g3 o3)
    | (have hgo := Bw2; clear hgo
       go_at_call 95
       refine (refStrict_cut _ l0 CL Y _ f_c HCL.out HL.out HYv.out HY.out).mono ?_
       rintro e w12 ⟨rfl, kk⟩
       replace r_t2 := zrb r_t2 kk
       have Bw3 := zbt HGS Bw2 kk
       clear Bw2 kk)
    | (have hgo := Bw3; clear hgo
       refine wpList_alloc_row rfl 61 rfl 16 (u64f fun _ => 0) zeroFe ?_
       intro b_t5 w16 lk r_t5 kk
       have n_t2_t5 := zrn r_t2 lk
       have l_t5 := zrl HGS Bw3 lk
       replace r_t2 := zrb r_t2 kk
       have Bw4 := zbt HGS Bw3 kk
       clear Bw3 kk lk)
    | (have hgo := Bw4; clear hgo
       refine wpList_store_as rfl 61 (.tmp 5) (.tmp 29) rfl 16 (feF Y) arrFe r_t5 rfl rfl (by omega) (fun _ _ => rfl) (fun i hi => putN_whole hi) ?_
       intro w17 q gk
       replace r_t2 := gb_rowIs r_t2 gk n_t2_t5
       replace r_t5 := q
       have Bw5 := zbg HGS Bw4 gk l_t5
       clear Bw4 gk q)
    | (have hgo := Bw5; clear hgo
       refine wpList_load_as rfl 61 (.tmp 5) rfl 16 (feF Y) arrFe r_t5 rfl (by omega) (fun i hi => by rw [Nat.zero_add]) ?_
       have Bw6 := Bw5
       clear Bw5)
    | (have hgo := Bw6; clear hgo
       refine wpList_load_as rfl 61 (.tmp 5) rfl 16 (feF Y) arrFe r_t5 rfl (by omega) (fun i hi => by rw [Nat.zero_add]) ?_
       have Bw7 := Bw6
       clear Bw6)
    | (have hgo := Bw7; clear hgo
       go_at_call 76
       refine (refMul5_any Y Y _ HY.out HY.out).mono ?_
       rintro e w21 ⟨rfl, kk⟩
       replace r_t2 := zrb r_t2 kk
       replace r_t5 := zrb r_t5 kk
       have Bw8 := zbt HGS Bw7 kk
       clear Bw7 kk)
    | (have hgo := Bw8; clear hgo
       refine wpList_alloc_row rfl 61 rfl 16 (u64f fun _ => 0) zeroFe ?_
       intro b_t7 w22 lk r_t7 kk
       have n_t2_t7 := zrn r_t2 lk
       have n_t5_t7 := zrn r_t5 lk
       have l_t7 := zrl HGS Bw8 lk
       replace r_t2 := zrb r_t2 kk
       replace r_t5 := zrb r_t5 kk
       have Bw9 := zbt HGS Bw8 kk
       clear Bw8 kk lk)
    | (have hgo := Bw9; clear hgo
       refine wpList_store_as rfl 61 (.tmp 7) (.tmp 36) rfl 16 (feF (mulP Y Y)) arrFe r_t7 rfl rfl (by omega) (fun _ _ => rfl) (fun i hi => putN_whole hi) ?_
       intro w23 q gk
       replace r_t2 := gb_rowIs r_t2 gk n_t2_t7
       replace r_t5 := gb_rowIs r_t5 gk n_t5_t7
       replace r_t7 := q
       have Bw10 := zbg HGS Bw9 gk l_t7
       clear Bw9 gk q))
  have Bw11 := Bw10.drew
  replace r_t2 := World.rowIs.drew r_t2
  replace r_t5 := World.rowIs.drew r_t5
  replace r_t7 := World.rowIs.drew r_t7
  clear Bw10
  refine zpo [] (.rd 0 .done) #[true, false, false, false, false] [1, 2, 3, 4] [some 38, some 39, some 8, none] [[], [0], [], [0, 1, 2]] [(0, []), (1, []), (2, [0, 1, 1]), (3, []), (4, [3, 2, 2, 0, 1, 2, 3])] 1 ?_
  refine zld (feF (mulP Y Y)) arrFe r_t7 rfl (fun i hi => by rw [Nat.zero_add]) rfl rfl rfl rfl rfl (by omega) ?_
  simp only [Act.put, zA, zB, zC]
  refine lintz_leaf ?_
  refine po_start [.val (.agg (arrOf 16 (feF 1))), .val (.agg (arrOf 16 (feF (subP p25 (mulP Y Y) 1)))), .row 61 16 (u64f fun _ => 0) 3 (feF (subP p25 (mulP Y Y) 1)), .nil] [] (fun i hi => absurd hi (Nat.not_lt_zero _)) (fun HWF m gz wa p az hp hm hmp hcl hdn hE hJ hS hO => ?_) (fun gz wa hE hJ => ?_)
  · rcases (show p = 0 ∨ p = 1 ∨ p = 2 ∨ p = 3 by have h9 : p < 4 := hp; omega) with rfl | rfl | rfl | rfl
    · exact po_k HWF hJ hE (refSmall_any 1 _ (by decide)) rfl rfl rfl rfl rfl rfl (ar1 rfl)
    · have e37 : az.eval (.tmp 37) = .agg (arrOf 16 (feF (mulP Y Y))) := hO 37 rfl
      exact po_k HWF hJ hE (refSub_any (mulP Y Y) 1 _ (mulP_lt _ _) (by decide +kernel)) rfl rfl rfl rfl rfl rfl (ar2 e37 (po_e hS hdn hJ 0 38 rfl rfl rfl rfl))
    · exact po_alloc 8 _ 61 16 (u64f fun _ => 0) _ _ HWF hJ rfl (po_notyet hcl hmp (by rw [hm]; exact hp) (by decide)) hE rfl rfl rfl rfl rfl rfl zeroFe
    · exact po_sr 2 hm hp hmp hdn hJ hE rfl rfl rfl rfl rfl rfl rfl rfl (po_e0 hS hdn 2 8 rfl rfl rfl) (po_e hS hdn hJ 1 39 rfl rfl rfl rfl) arrFe (fun _ _ => rfl)
  · obtain ⟨b_t8, p_t8, lk_t8, r_t8, d_t8⟩ := hJ.row 2 (by decide) rfl (by decide)
    rw [putO_true _ _ _ _ _ rfl]
    simp only [putA, Nat.zero_add, Nat.reduceAdd]
    rw [hJ.tt 0 rfl, hJ.tt 1 rfl, p_t8]
    simp only [Act.put, zA, zB, zC]
    refine po_end ?_
    have n_t2_t8 := zrn r_t2 lk_t8
    have n_t5_t8 := zrn r_t5 lk_t8
    have n_t7_t8 := zrn r_t7 lk_t8
    have l_t8 := zrl HGS Bw11 lk_t8
    replace r_t2 := Keep.row hE r_t2 rfl
    replace r_t5 := Keep.row hE r_t5 rfl
    replace r_t7 := Keep.row hE r_t7 rfl
    have Bw12 := hE.below Bw11 (HGS.out _ Bw11) rfl
    clear Bw11 hE hJ p_t8 lk_t8 d_t8
    go_wp2
    have Bw13 := Bw12.drew
    replace r_t2 := World.rowIs.drew r_t2
    replace r_t5 := World.rowIs.drew r_t5
    replace r_t7 := World.rowIs.drew r_t7
    replace r_t8 := World.rowIs.drew r_t8
    clear Bw12
    refine zpo [] (.rd 1 .done) #[false, true, false, false, false, false, false] [0, 2, 3, 4, 5, 6] [some 40, some 42, some 43, some 44, some 9, none] [[], [0], [1], [1, 2], [], [0, 1, 2, 3, 4]] [(0, []), (1, []), (2, [0, 1, 0]), (3, [2]), (4, [2, 3, 3]), (5, []), (6, [5, 4, 4, 0, 1, 2, 3, 4, 5])] 2 ?_
    refine zld (feF (mulP Y Y)) arrFe r_t7 rfl (fun i hi => by rw [Nat.zero_add]) rfl rfl rfl rfl rfl (by omega) ?_
    simp only [Act.put, zA, zB, zC]
    refine lintz_leaf ?_
    refine po_start [.val (.agg (arrOf 16 (feF dP))), .val (.agg (arrOf 16 (feF (mulP dP (mulP Y Y))))), .val (.agg (arrOf 16 (feF 1))), .val (.agg (arrOf 16 (feF (addP (mulP dP (mulP Y Y)) 1)))), .row 61 16 (u64f fun _ => 0) 5 (feF (addP (mulP dP (mulP Y Y)) 1)), .nil] [] (fun i hi => absurd hi (Nat.not_lt_zero _)) (fun HWF m gz wa p az hp hm hmp hcl hdn hE hJ hS hO => ?_) (fun gz wa hE hJ => ?_)
    · rcases (show p = 0 ∨ p = 1 ∨ p = 2 ∨ p = 3 ∨ p = 4 ∨ p = 5 by have h9 : p < 6 := hp; omega) with rfl | rfl | rfl | rfl | rfl | rfl
      · exact po_k HWF hJ hE (curve_any _) rfl rfl rfl rfl rfl rfl (ar0)
      · have e41 : az.eval (.tmp 41) = .agg (arrOf 16 (feF (mulP Y Y))) := hO 41 rfl
        exact po_k HWF hJ hE (refMul5_any dP (mulP Y Y) _ dP_lt (mulP_lt _ _)) rfl rfl rfl rfl rfl rfl (ar2 (po_e hS hdn hJ 0 40 rfl rfl rfl rfl) e41)
      · exact po_k HWF hJ hE (refSmall_any 1 _ (by decide)) rfl rfl rfl rfl rfl rfl (ar1 rfl)
      · exact po_k HWF hJ hE (refAdd5_any (mulP dP (mulP Y Y)) 1 _ (mulP_lt _ _) (by decide +kernel)) rfl rfl rfl rfl rfl rfl (ar2 (po_e hS hdn hJ 1 42 rfl rfl rfl rfl) (po_e hS hdn hJ 2 43 rfl rfl rfl rfl))
      · exact po_alloc 9 _ 61 16 (u64f fun _ => 0) _ _ HWF hJ rfl (po_notyet hcl hmp (by rw [hm]; exact hp) (by decide)) hE rfl rfl rfl rfl rfl rfl zeroFe
      · exact po_sr 4 hm hp hmp hdn hJ hE rfl rfl rfl rfl rfl rfl rfl rfl (po_e0 hS hdn 4 9 rfl rfl rfl) (po_e hS hdn hJ 3 44 rfl rfl rfl rfl) arrFe (fun _ _ => rfl)
    · obtain ⟨b_t9, p_t9, lk_t9, r_t9, d_t9⟩ := hJ.row 4 (by decide) rfl (by decide)
      rw [putO_true _ _ _ _ _ rfl]
      simp only [putA, Nat.zero_add, Nat.reduceAdd]
      rw [hJ.tt 0 rfl, hJ.tt 1 rfl, hJ.tt 2 rfl, hJ.tt 3 rfl, p_t9]
      simp only [Act.put, zA, zB, zC]
      refine po_end ?_
      have n_t2_t9 := zrn r_t2 lk_t9
      have n_t5_t9 := zrn r_t5 lk_t9
      have n_t7_t9 := zrn r_t7 lk_t9
      have n_t8_t9 := zrn r_t8 lk_t9
      have l_t9 := zrl HGS Bw13 lk_t9
      replace r_t2 := Keep.row hE r_t2 rfl
      replace r_t5 := Keep.row hE r_t5 rfl
      replace r_t7 := Keep.row hE r_t7 rfl
      replace r_t8 := Keep.row hE r_t8 rfl
      have Bw14 := hE.below Bw13 (HGS.out _ Bw13) rfl
      clear Bw13 hE hJ p_t9 lk_t9 d_t9
      have hsg2 : q / 128 = 0 ∨ q / 128 = 1 := by have := HQL.out; omega
      cases hx : decX Y with
      | none =>
        have HRT := Lib.hid fun w => refRoot_none (decS Y) w (decS_lt Y) hx
        unfold decS at HRT
        obtain rfl := H3.out (by rw [HYv.out]; exact hx)
        clear H4 H5 H7 HSG hx
        go_wp2
        have Bw15 := Bw14.drew
        replace r_t2 := World.rowIs.drew r_t2
        replace r_t5 := World.rowIs.drew r_t5
        replace r_t7 := World.rowIs.drew r_t7
        replace r_t8 := World.rowIs.drew r_t8
        replace r_t9 := World.rowIs.drew r_t9
        clear Bw14
        refine zpo [] (.rd 0 (.rd 1 .done)) #[true, true, false, false, false, false, false, false, false, false, false] [2, 3, 4, 5, 6, 7, 8, 9, 10] [some 48, some 49, some 50, some 45, some 51, some 52, some 10, none, some 11] [[], [0], [1], [2], [3], [3], [], [0, 1, 2, 3, 4, 6], [0, 1, 2, 3, 4, 5, 6, 7]] [(0, []), (1, []), (2, [1]), (3, [0, 2, 2]), (4, [3, 3]), (5, [4]), (6, [5]), (7, [5]), (8, []), (9, [8, 6, 4, 0, 1, 2, 3, 4, 5, 6, 8]), (10, [7, 9, 0, 1, 2, 3, 4, 5, 6, 7, 8, 9])] 3 ?_
        refine zld (feF (subP p25 (mulP Y Y) 1)) arrFe r_t8 rfl (fun i hi => by rw [Nat.zero_add]) rfl rfl rfl rfl rfl (by omega) ?_
        refine zld (feF (addP (mulP dP (mulP Y Y)) 1)) arrFe r_t9 rfl (fun i hi => by rw [Nat.zero_add]) rfl rfl rfl rfl rfl (by omega) ?_
        simp only [Act.put, zA, zB, zC]
        refine lintz_leaf ?_
        refine po_start [.val (.agg (arrOf 16 (feF (invP (addP (mulP dP (mulP Y Y)) 1))))), .val (.agg (arrOf 16 (feF (mulP (subP p25 (mulP Y Y) 1) (invP (addP (mulP dP (mulP Y Y)) 1)))))), .val (.tuple #[.agg (arrOf 16 (feF 0)), .int .i64 7]), .val (.tuple #[.agg (arrOf 16 (feF 0)), .int .i64 7]), .val (.agg (arrOf 16 (feF 0))), .val (.int .i64 7), .row 61 16 (u64f fun _ => 0) 7 (feF 0), .nil, .val (.int .i64 7)] [] (fun i hi => absurd hi (Nat.not_lt_zero _)) (fun HWF m gz wa p az hp hm hmp hcl hdn hE hJ hS hO => ?_) (fun gz wa hE hJ => ?_)
        · rcases (show p = 0 ∨ p = 1 ∨ p = 2 ∨ p = 3 ∨ p = 4 ∨ p = 5 ∨ p = 6 ∨ p = 7 ∨ p = 8 by have h9 : p < 9 := hp; omega) with rfl | rfl | rfl | rfl | rfl | rfl | rfl | rfl | rfl
          · have e47 : az.eval (.tmp 47) = .agg (arrOf 16 (feF (addP (mulP dP (mulP Y Y)) 1))) := hO 47 rfl
            exact po_k HWF hJ hE (refInv5_any (addP (mulP dP (mulP Y Y)) 1) _ (addP_lt _ _)) rfl rfl rfl rfl rfl rfl (ar1 e47)
          · have e46 : az.eval (.tmp 46) = .agg (arrOf 16 (feF (subP p25 (mulP Y Y) 1))) := hO 46 rfl
            exact po_k HWF hJ hE (refMul5_any (subP p25 (mulP Y Y) 1) (invP (addP (mulP dP (mulP Y Y)) 1)) _ (subP_lt _ _) (invP_lt _)) rfl rfl rfl rfl rfl rfl (ar2 e46 (po_e hS hdn hJ 0 48 rfl rfl rfl rfl))
          · exact po_k HWF hJ hE (HRT.out _) rfl rfl rfl rfl rfl rfl (ar1 (po_e hS hdn hJ 1 49 rfl rfl rfl rfl))
          · exact po_p _ HWF hJ hE rfl rfl rfl rfl rfl rfl rfl (x_move (po_e hS hdn hJ 2 50 rfl rfl rfl rfl))
          · have e45 := po_e hS hdn hJ 3 45 rfl rfl rfl rfl
            exact po_p (Op.extract (Operand.tmp 45) 0) HWF hJ hE rfl rfl rfl rfl rfl rfl rfl (by first | (simp only [execOp, mkOp, eval_const, e45]; done) | (simp only [execOp, mkOp, eval_const, e45]; go_simp))
          · have e45 := po_e hS hdn hJ 3 45 rfl rfl rfl rfl
            exact po_p (Op.extract (Operand.tmp 45) 1) HWF hJ hE rfl rfl rfl rfl rfl rfl rfl (by first | (simp only [execOp, mkOp, eval_const, e45]; done) | (simp only [execOp, mkOp, eval_const, e45]; go_simp))
          · exact po_alloc 10 _ 61 16 (u64f fun _ => 0) _ _ HWF hJ rfl (po_notyet hcl hmp (by rw [hm]; exact hp) (by decide)) hE rfl rfl rfl rfl rfl rfl zeroFe
          · exact po_sr 6 hm hp hmp hdn hJ hE rfl rfl rfl rfl rfl rfl rfl rfl (po_e0 hS hdn 6 10 rfl rfl rfl) (po_e hS hdn hJ 4 51 rfl rfl rfl rfl) arrFe (fun _ _ => rfl)
          · exact po_p _ HWF hJ hE rfl rfl rfl rfl rfl rfl rfl (x_assign (po_e hS hdn hJ 5 52 rfl rfl rfl rfl))
        · obtain ⟨b_t10, p_t10, lk_t10, r_t10, d_t10⟩ := hJ.row 6 (by decide) rfl (by decide)
          rw [putO_true _ _ _ _ _ rfl]
          simp only [putA, Nat.zero_add, Nat.reduceAdd]
          rw [hJ.tt 0 rfl, hJ.tt 1 rfl, hJ.tt 2 rfl, hJ.tt 3 rfl, hJ.tt 4 rfl, hJ.tt 5 rfl, p_t10, hJ.tt 8 rfl]
          simp only [Act.put, zA, zB, zC]
          refine po_end ?_
          have n_t2_t10 := zrn r_t2 lk_t10
          have n_t5_t10 := zrn r_t5 lk_t10
          have n_t7_t10 := zrn r_t7 lk_t10
          have n_t8_t10 := zrn r_t8 lk_t10
          have n_t9_t10 := zrn r_t9 lk_t10
          have l_t10 := zrl HGS Bw15 lk_t10
          replace r_t2 := Keep.row hE r_t2 rfl
          replace r_t5 := Keep.row hE r_t5 rfl
          replace r_t7 := Keep.row hE r_t7 rfl
          replace r_t8 := Keep.row hE r_t8 rfl
          replace r_t9 := Keep.row hE r_t9 rfl
          have Bw16 := hE.below Bw15 (HGS.out _ Bw15) rfl
          clear Bw15 hE hJ p_t10 lk_t10 d_t10
          rcases hsg2 with ho | ho
          · have HSH : Hid (0 = q / 128) := Lib.hid ho.symm
            clear ho
            go_wp2_with (first
              | (have hgo := Bw16; clear hgo
                 refine wpList_load_cat rfl (.tmp 54) rfl (HC31.out _ Bw16) rfl ?_
                 have Bw17 := Bw16
                 clear Bw16)
              | (have hgo := Bw17; clear hgo
                 refine wpList_shr7 rfl (.tmp 55) (.const (.int .u64 7)) rfl rfl rfl HSH.out HQL.out ?_
                 have Bw18 := Bw17
                 clear Bw17)
              | (have hgo := Bw18; clear hgo
                 go_at_call 80
                 refine (refZero_any _).mono ?_
                 rintro e w30 ⟨rfl, kk⟩
                 replace r_t2 := zrb r_t2 kk
                 replace r_t5 := zrb r_t5 kk
                 replace r_t7 := zrb r_t7 kk
                 replace r_t8 := zrb r_t8 kk
                 replace r_t9 := zrb r_t9 kk
                 replace r_t10 := zrb r_t10 kk
                 have Bw19 := zbt HGS Bw18 kk
                 clear Bw18 kk)
              | (have hgo := Bw19; clear hgo
                 refine wpList_store_as rfl 63 (.tmp 2) (.tmp 68) rfl 48 (ptF 0 1 1) arrP r_t2 rfl rfl (by omega) (fun j _ => ptF_one _ _ _ j) (fun i hi => putN_whole hi) ?_
                 intro w31 q gk
                 replace r_t5 := gb_rowIs r_t5 gk (Ne.symm n_t2_t5)
                 replace r_t7 := gb_rowIs r_t7 gk (Ne.symm n_t2_t7)
                 replace r_t8 := gb_rowIs r_t8 gk (Ne.symm n_t2_t8)
                 replace r_t9 := gb_rowIs r_t9 gk (Ne.symm n_t2_t9)
                 replace r_t10 := gb_rowIs r_t10 gk (Ne.symm n_t2_t10)
                 replace r_t2 := q
                 have Bw20 := zbg HGS Bw19 gk l_t2
                 clear Bw19 gk q))
            exact ret_cell_as_tmp _ rfl arrP r_t2 rfl rfl (by omega) (fun _ _ => rfl) rfl ⟨rfl, Bw20⟩
          · have HSH : Hid (1 = q / 128) := Lib.hid ho.symm
            clear ho
            go_wp2_with (first
              | (have hgo := Bw16; clear hgo
                 refine wpList_load_cat rfl (.tmp 54) rfl (HC31.out _ Bw16) rfl ?_
                 have Bw17 := Bw16
                 clear Bw16)
              | (have hgo := Bw17; clear hgo
                 refine wpList_shr7 rfl (.tmp 55) (.const (.int .u64 7)) rfl rfl rfl HSH.out HQL.out ?_
                 have Bw18 := Bw17
                 clear Bw17)
              | (have hgo := Bw18; clear hgo
                 go_at_call 80
                 refine (refZero_any _).mono ?_
                 rintro e w30 ⟨rfl, kk⟩
                 replace r_t2 := zrb r_t2 kk
                 replace r_t5 := zrb r_t5 kk
                 replace r_t7 := zrb r_t7 kk
                 replace r_t8 := zrb r_t8 kk
                 replace r_t9 := zrb r_t9 kk
                 replace r_t10 := zrb r_t10 kk
                 have Bw19 := zbt HGS Bw18 kk
                 clear Bw18 kk)
              | (have hgo := Bw19; clear hgo
                 refine wpList_store_as rfl 63 (.tmp 2) (.tmp 68) rfl 48 (ptF 0 1 1) arrP r_t2 rfl rfl (by omega) (fun j _ => ptF_one _ _ _ j) (fun i hi => putN_whole hi) ?_
                 intro w31 q gk
                 replace r_t5 := gb_rowIs r_t5 gk (Ne.symm n_t2_t5)
                 replace r_t7 := gb_rowIs r_t7 gk (Ne.symm n_t2_t7)
                 replace r_t8 := gb_rowIs r_t8 gk (Ne.symm n_t2_t8)
                 replace r_t9 := gb_rowIs r_t9 gk (Ne.symm n_t2_t9)
                 replace r_t10 := gb_rowIs r_t10 gk (Ne.symm n_t2_t10)
                 replace r_t2 := q
                 have Bw20 := zbg HGS Bw19 gk l_t2
                 clear Bw19 gk q))
            exact ret_cell_as_tmp _ rfl arrP r_t2 rfl rfl (by omega) (fun _ _ => rfl) rfl ⟨rfl, Bw20⟩
      | some x =>
        have HRT := Lib.hid fun w => refRoot_some (decS Y) x w (decS_lt Y) hx
        unfold decS at HRT
        have Hx : Hid (x < p25) := Lib.hid (rootL_some prime_p25 t25_eq (decS_lt Y) hx).2.2
        rw [← HYv.out] at hx
        rcases hsg2 with ho | ho
        · by_cases hx0 : x = 0
          · skip
            have HX0 := Lib.hid hx0
            have HSH : Hid (0 = q / 128) := Lib.hid ho.symm
            obtain rfl := H5.out x hx (HSG.out.trans ho)
            clear H3 H4 H5 H7 HSG hx ho hx0
            go_wp2
            have Bw15 := Bw14.drew
            replace r_t2 := World.rowIs.drew r_t2
            replace r_t5 := World.rowIs.drew r_t5
            replace r_t7 := World.rowIs.drew r_t7
            replace r_t8 := World.rowIs.drew r_t8
            replace r_t9 := World.rowIs.drew r_t9
            clear Bw14
            refine zpo [] (.rd 0 (.rd 1 .done)) #[true, true, false, false, false, false, false, false, false, false, false] [2, 3, 4, 5, 6, 7, 8, 9, 10] [some 48, some 49, some 50, some 45, some 51, some 52, some 10, none, some 11] [[], [0], [1], [2], [3], [3], [], [0, 1, 2, 3, 4, 6], [0, 1, 2, 3, 4, 5, 6, 7]] [(0, []), (1, []), (2, [1]), (3, [0, 2, 2]), (4, [3, 3]), (5, [4]), (6, [5]), (7, [5]), (8, []), (9, [8, 6, 4, 0, 1, 2, 3, 4, 5, 6, 8]), (10, [7, 9, 0, 1, 2, 3, 4, 5, 6, 7, 8, 9])] 3 ?_
            refine zld (feF (subP p25 (mulP Y Y) 1)) arrFe r_t8 rfl (fun i hi => by rw [Nat.zero_add]) rfl rfl rfl rfl rfl (by omega) ?_
            refine zld (feF (addP (mulP dP (mulP Y Y)) 1)) arrFe r_t9 rfl (fun i hi => by rw [Nat.zero_add]) rfl rfl rfl rfl rfl (by omega) ?_
            simp only [Act.put, zA, zB, zC]
            refine lintz_leaf ?_
            refine po_start [.val (.agg (arrOf 16 (feF (invP (addP (mulP dP (mulP Y Y)) 1))))), .val (.agg (arrOf 16 (feF (mulP (subP p25 (mulP Y Y) 1) (invP (addP (mulP dP (mulP Y Y)) 1)))))), .val (.tuple #[.agg (arrOf 16 (feF x)), .int .i64 0]), .val (.tuple #[.agg (arrOf 16 (feF x)), .int .i64 0]), .val (.agg (arrOf 16 (feF x))), .val (.int .i64 0), .row 61 16 (u64f fun _ => 0) 7 (feF x), .nil, .val (.int .i64 0)] [] (fun i hi => absurd hi (Nat.not_lt_zero _)) (fun HWF m gz wa p az hp hm hmp hcl hdn hE hJ hS hO => ?_) (fun gz wa hE hJ => ?_)
            · rcases (show p = 0 ∨ p = 1 ∨ p = 2 ∨ p = 3 ∨ p = 4 ∨ p = 5 ∨ p = 6 ∨ p = 7 ∨ p = 8 by have h9 : p < 9 := hp; omega) with rfl | rfl | rfl | rfl | rfl | rfl | rfl | rfl | rfl
              · have e47 : az.eval (.tmp 47) = .agg (arrOf 16 (feF (addP (mulP dP (mulP Y Y)) 1))) := hO 47 rfl
                exact po_k HWF hJ hE (refInv5_any (addP (mulP dP (mulP Y Y)) 1) _ (addP_lt _ _)) rfl rfl rfl rfl rfl rfl (ar1 e47)
              · have e46 : az.eval (.tmp 46) = .agg (arrOf 16 (feF (subP p25 (mulP Y Y) 1))) := hO 46 rfl
                exact po_k HWF hJ hE (refMul5_any (subP p25 (mulP Y Y) 1) (invP (addP (mulP dP (mulP Y Y)) 1)) _ (subP_lt _ _) (invP_lt _)) rfl rfl rfl rfl rfl rfl (ar2 e46 (po_e hS hdn hJ 0 48 rfl rfl rfl rfl))
              · exact po_k HWF hJ hE (HRT.out _) rfl rfl rfl rfl rfl rfl (ar1 (po_e hS hdn hJ 1 49 rfl rfl rfl rfl))
              · exact po_p _ HWF hJ hE rfl rfl rfl rfl rfl rfl rfl (x_move (po_e hS hdn hJ 2 50 rfl rfl rfl rfl))
              · have e45 := po_e hS hdn hJ 3 45 rfl rfl rfl rfl
                exact po_p (Op.extract (Operand.tmp 45) 0) HWF hJ hE rfl rfl rfl rfl rfl rfl rfl (by first | (simp only [execOp, mkOp, eval_const, e45]; done) | (simp only [execOp, mkOp, eval_const, e45]; go_simp))
              · have e45 := po_e hS hdn hJ 3 45 rfl rfl rfl rfl
                exact po_p (Op.extract (Operand.tmp 45) 1) HWF hJ hE rfl rfl rfl rfl rfl rfl rfl (by first | (simp only [execOp, mkOp, eval_const, e45]; done) | (simp only [execOp, mkOp, eval_const, e45]; go_simp))
              · exact po_alloc 10 _ 61 16 (u64f fun _ => 0) _ _ HWF hJ rfl (po_notyet hcl hmp (by rw [hm]; exact hp) (by decide)) hE rfl rfl rfl rfl rfl rfl zeroFe
              · exact po_sr 6 hm hp hmp hdn hJ hE rfl rfl rfl rfl rfl rfl rfl rfl (po_e0 hS hdn 6 10 rfl rfl rfl) (po_e hS hdn hJ 4 51 rfl rfl rfl rfl) arrFe (fun _ _ => rfl)
              · exact po_p _ HWF hJ hE rfl rfl rfl rfl rfl rfl rfl (x_assign (po_e hS hdn hJ 5 52 rfl rfl rfl rfl))
            · obtain ⟨b_t10, p_t10, lk_t10, r_t10, d_t10⟩ := hJ.row 6 (by decide) rfl (by decide)
              rw [putO_true _ _ _ _ _ rfl]
              simp only [putA, Nat.zero_add, Nat.reduceAdd]
              rw [hJ.tt 0 rfl, hJ.tt 1 rfl, hJ.tt 2 rfl, hJ.tt 3 rfl, hJ.tt 4 rfl, hJ.tt 5 rfl, p_t10, hJ.tt 8 rfl]
              simp only [Act.put, zA, zB, zC]
              refine po_end ?_
              have n_t2_t10 := zrn r_t2 lk_t10
              have n_t5_t10 := zrn r_t5 lk_t10
              have n_t7_t10 := zrn r_t7 lk_t10
              have n_t8_t10 := zrn r_t8 lk_t10
              have n_t9_t10 := zrn r_t9 lk_t10
              have l_t10 := zrl HGS Bw15 lk_t10
              replace r_t2 := Keep.row hE r_t2 rfl
              replace r_t5 := Keep.row hE r_t5 rfl
              replace r_t7 := Keep.row hE r_t7 rfl
              replace r_t8 := Keep.row hE r_t8 rfl
              replace r_t9 := Keep.row hE r_t9 rfl
              have Bw16 := hE.below Bw15 (HGS.out _ Bw15) rfl
              clear Bw15 hE hJ p_t10 lk_t10 d_t10
              go_wp2_with (first
                | (have hgo := Bw16; clear hgo
                   refine wpList_load_cat rfl (.tmp 54) rfl (HC31.out _ Bw16) rfl ?_
                   have Bw17 := Bw16
                   clear Bw16)
                | (have hgo := Bw17; clear hgo
                   refine wpList_shr7 rfl (.tmp 55) (.const (.int .u64 7)) rfl rfl rfl HSH.out HQL.out ?_
                   have Bw18 := Bw17
                   clear Bw17)
                | (have hgo := Bw18; clear hgo
                   refine wpList_load_given rfl 61 (.tmp 10) rfl 16 arrFe r_t10 rfl (by omega) ?_
                   simp only [Nat.zero_add]
                   have Bw19 := Bw18
                   clear Bw18)
                | (have hgo := Bw19; clear hgo
                   refine wpList_value_given rfl (.agg (arrOf 16 (feF 0))) (by rw [exec_mkOp]; exact exec_zeroFe _ _) ?_
                   have Bw20 := Bw19
                   clear Bw19)
                | (have hgo := Bw20; clear hgo
                   refine wpList_value_given rfl (.bool true) (by rw [exec_mkOp]; exact exec_Fe_eq2 _ _ _ _ Hx.out p25_pos (decide_eq_true HX0.out) rfl rfl) ?_
                   have Bw21 := Bw20
                   clear Bw20))
              have Bw22 := Bw21.drew
              replace r_t2 := World.rowIs.drew r_t2
              replace r_t5 := World.rowIs.drew r_t5
              replace r_t7 := World.rowIs.drew r_t7
              replace r_t8 := World.rowIs.drew r_t8
              replace r_t9 := World.rowIs.drew r_t9
              replace r_t10 := World.rowIs.drew r_t10
              clear Bw21
              refine zpo [b_t2] (.rd 0 (.rd 1 .done)) #[true, true, false, false, false, false] [2, 3, 4, 5] [some 74, some 75, none, some 3] [[], [0], [0, 1], [0, 1, 2]] [(0, []), (1, []), (2, []), (3, [0, 1, 2]), (4, [3, 2, 0, 1, 2, 3]), (5, [4, 0, 1, 2, 3, 4])] 3 ?_
              refine zld (feF x) arrFe r_t10 (cont1 (Ne.symm n_t2_t10)) (fun i hi => by rw [Nat.zero_add]) rfl rfl rfl rfl rfl (by omega) ?_
              refine zld (feF Y) arrFe r_t5 (cont1 (Ne.symm n_t2_t5)) (fun i hi => by rw [Nat.zero_add]) rfl rfl rfl rfl rfl (by omega) ?_
              simp only [Act.put, zA, zB, zC]
              refine lintz_leaf ?_
              refine po_start [.val (.agg (arrOf 16 (feF 1))), .val (.agg (arrOf 48 (ptF x Y 1))), .nil, .val ((.int .i64 0))] [⟨b_t2, 63, 48, (u64f fun _ => 0), 2, (ptF x Y 1)⟩] (fun i hi => by obtain rfl : i = 0 := by { have h9 : i < 1 := hi; omega }; exact r_t2) (fun HWF m gz wa p az hp hm hmp hcl hdn hE hJ hS hO => ?_) (fun gz wa hE hJ => ?_)
              · rcases (show p = 0 ∨ p = 1 ∨ p = 2 ∨ p = 3 by have h9 : p < 4 := hp; omega) with rfl | rfl | rfl | rfl
                · exact po_k HWF hJ hE (refSmall_any 1 _ (by decide)) rfl rfl rfl rfl rfl rfl (ar1 rfl)
                · have e72 : az.eval (.tmp 72) = .agg (arrOf 16 (feF x)) := hO 72 rfl
                  have e73 : az.eval (.tmp 73) = .agg (arrOf 16 (feF Y)) := hO 73 rfl
                  have e74 := po_e hS hdn hJ 0 74 rfl rfl rfl rfl
                  exact po_p _ HWF hJ hE rfl rfl rfl rfl rfl rfl rfl (exec_build_as _ _ _ (by simp only [List.map_toArray, List.map_cons, List.map_nil, e72, e73, e74]; exact builtP x Y 1))
                · exact po_storeOld 0 (.tmp 2) (.tmp 75) 63 b_t2 48 _ (by rw [hm]; exact hp) hmp hJ rfl (show 0 < 1 by decide) rfl rfl rfl rfl rfl (World.rowIs.lt r_t2) (by simp) (by kernel_rfl) po_ne1 hE rfl rfl rfl rfl rfl (hO 2 rfl) (po_e hS hdn hJ 1 75 rfl rfl rfl rfl) arrP (fun j _ => ptF_one _ _ _ j)
                · exact po_p _ HWF hJ hE rfl rfl rfl rfl rfl rfl rfl (x_assign rfl)
              · rw [putO_true _ _ _ _ _ rfl]
                simp only [putA, Nat.zero_add, Nat.reduceAdd]
                rw [hJ.tt 0 rfl, hJ.tt 1 rfl, hJ.tt 3 rfl]
                simp only [Act.put, zA, zB, zC]
                refine po_end ?_
                replace r_t2 : wa.rowIs b_t2 63 48 (ptF x Y 1) := hJ.old 0 (show 0 < 1 by decide) (show 2 < 4 by decide)
                replace r_t5 := Keep.row hE r_t5 (cont1 (Ne.symm n_t2_t5))
                replace r_t7 := Keep.row hE r_t7 (cont1 (Ne.symm n_t2_t7))
                replace r_t8 := Keep.row hE r_t8 (cont1 (Ne.symm n_t2_t8))
                replace r_t9 := Keep.row hE r_t9 (cont1 (Ne.symm n_t2_t9))
                replace r_t10 := Keep.row hE r_t10 (cont1 (Ne.symm n_t2_t10))
                have Bw23 := hE.below Bw22 (HGS.out _ Bw22) (keep_all1 l_t2)
                clear Bw22 hE hJ 
                go_wp2
                exact ret_cell_as_tmp _ rfl arrP r_t2 rfl rfl (by omega) (fun _ _ => rfl) rfl ⟨by rw [HYv.out]; rfl, Bw23⟩
          · skip
            have HX0 := Lib.hid hx0
            have HSH : Hid (0 = q / 128) := Lib.hid ho.symm
            obtain rfl := H5.out x hx (HSG.out.trans ho)
            clear H3 H4 H5 H7 HSG hx ho hx0
            go_wp2
            have Bw15 := Bw14.drew
            replace r_t2 := World.rowIs.drew r_t2
            replace r_t5 := World.rowIs.drew r_t5
            replace r_t7 := World.rowIs.drew r_t7
            replace r_t8 := World.rowIs.drew r_t8
            replace r_t9 := World.rowIs.drew r_t9
            clear Bw14
            refine zpo [] (.rd 0 (.rd 1 .done)) #[true, true, false, false, false, false, false, false, false, false, false] [2, 3, 4, 5, 6, 7, 8, 9, 10] [some 48, some 49, some 50, some 45, some 51, some 52, some 10, none, some 11] [[], [0], [1], [2], [3], [3], [], [0, 1, 2, 3, 4, 6], [0, 1, 2, 3, 4, 5, 6, 7]] [(0, []), (1, []), (2, [1]), (3, [0, 2, 2]), (4, [3, 3]), (5, [4]), (6, [5]), (7, [5]), (8, []), (9, [8, 6, 4, 0, 1, 2, 3, 4, 5, 6, 8]), (10, [7, 9, 0, 1, 2, 3, 4, 5, 6, 7, 8, 9])] 3 ?_
            refine zld (feF (subP p25 (mulP Y Y) 1)) arrFe r_t8 rfl (fun i hi => by rw [Nat.zero_add]) rfl rfl rfl rfl rfl (by omega) ?_
            refine zld (feF (addP (mulP dP (mulP Y Y)) 1)) arrFe r_t9 rfl (fun i hi => by rw [Nat.zero_add]) rfl rfl rfl rfl rfl (by omega) ?_
            simp only [Act.put, zA, zB, zC]
            refine lintz_leaf ?_
            refine po_start [.val (.agg (arrOf 16 (feF (invP (addP (mulP dP (mulP Y Y)) 1))))), .val (.agg (arrOf 16 (feF (mulP (subP p25 (mulP Y Y) 1) (invP (addP (mulP dP (mulP Y Y)) 1)))))), .val (.tuple #[.agg (arrOf 16 (feF x)), .int .i64 0]), .val (.tuple #[.agg (arrOf 16 (feF x)), .int .i64 0]), .val (.agg (arrOf 16 (feF x))), .val (.int .i64 0), .row 61 16 (u64f fun _ => 0) 7 (feF x), .nil, .val (.int .i64 0)] [] (fun i hi => absurd hi (Nat.not_lt_zero _)) (fun HWF m gz wa p az hp hm hmp hcl hdn hE hJ hS hO => ?_) (fun gz wa hE hJ => ?_)
            · rcases (show p = 0 ∨ p = 1 ∨ p = 2 ∨ p = 3 ∨ p = 4 ∨ p = 5 ∨ p = 6 ∨ p = 7 ∨ p = 8 by have h9 : p < 9 := hp; omega) with rfl | rfl | rfl | rfl | rfl | rfl | rfl | rfl | rfl
              · have e47 : az.eval (.tmp 47) = .agg (arrOf 16 (feF (addP (mulP dP (mulP Y Y)) 1))) := hO 47 rfl
                exact po_k HWF hJ hE (refInv5_any (addP (mulP dP (mulP Y Y)) 1) _ (addP_lt _ _)) rfl rfl rfl rfl rfl rfl (ar1 e47)
              · have e46 : az.eval (.tmp 46) = .agg (arrOf 16 (feF (subP p25 (mulP Y Y) 1))) := hO 46 rfl
                exact po_k HWF hJ hE (refMul5_any (subP p25 (mulP Y Y) 1) (invP (addP (mulP dP (mulP Y Y)) 1)) _ (subP_lt _ _) (invP_lt _)) rfl rfl rfl rfl rfl rfl (ar2 e46 (po_e hS hdn hJ 0 48 rfl rfl rfl rfl))
              · exact po_k HWF hJ hE (HRT.out _) rfl rfl rfl rfl rfl rfl (ar1 (po_e hS hdn hJ 1 49 rfl rfl rfl rfl))
              · exact po_p _ HWF hJ hE rfl rfl rfl rfl rfl rfl rfl (x_move (po_e hS hdn hJ 2 50 rfl rfl rfl rfl))
              · have e45 := po_e hS hdn hJ 3 45 rfl rfl rfl rfl
                exact po_p (Op.extract (Operand.tmp 45) 0) HWF hJ hE rfl rfl rfl rfl rfl rfl rfl (by first | (simp only [execOp, mkOp, eval_const, e45]; done) | (simp only [execOp, mkOp, eval_const, e45]; go_simp))
              · have e45 := po_e hS hdn hJ 3 45 rfl rfl rfl rfl
                exact po_p (Op.extract (Operand.tmp 45) 1) HWF hJ hE rfl rfl rfl rfl rfl rfl rfl (by first | (simp only [execOp, mkOp, eval_const, e45]; done) | (simp only [execOp, mkOp, eval_const, e45]; go_simp))
              · exact po_alloc 10 _ 61 16 (u64f fun _ => 0) _ _ HWF hJ rfl (po_notyet hcl hmp (by rw [hm]; exact hp) (by decide)) hE rfl rfl rfl rfl rfl rfl zeroFe
              · exact po_sr 6 hm hp hmp hdn hJ hE rfl rfl rfl rfl rfl rfl rfl rfl (po_e0 hS hdn 6 10 rfl rfl rfl) (po_e hS hdn hJ 4 51 rfl rfl rfl rfl) arrFe (fun _ _ => rfl)
              · exact po_p _ HWF hJ hE rfl rfl rfl rfl rfl rfl rfl (x_assign (po_e hS hdn hJ 5 52 rfl rfl rfl rfl))
            · obtain ⟨b_t10, p_t10, lk_t10, r_t10, d_t10⟩ := hJ.row 6 (by decide) rfl (by decide)
              rw [putO_true _ _ _ _ _ rfl]
              simp only [putA, Nat.zero_add, Nat.reduceAdd]
              rw [hJ.tt 0 rfl, hJ.tt 1 rfl, hJ.tt 2 rfl, hJ.tt 3 rfl, hJ.tt 4 rfl, hJ.tt 5 rfl, p_t10, hJ.tt 8 rfl]
              simp only [Act.put, zA, zB, zC]
              refine po_end ?_
              have n_t2_t10 := zrn r_t2 lk_t10
              have n_t5_t10 := zrn r_t5 lk_t10
              have n_t7_t10 := zrn r_t7 lk_t10
              have n_t8_t10 := zrn r_t8 lk_t10
              have n_t9_t10 := zrn r_t9 lk_t10
              have l_t10 := zrl HGS Bw15 lk_t10
              replace r_t2 := Keep.row hE r_t2 rfl
              replace r_t5 := Keep.row hE r_t5 rfl
              replace r_t7 := Keep.row hE r_t7 rfl
              replace r_t8 := Keep.row hE r_t8 rfl
              replace r_t9 := Keep.row hE r_t9 rfl
              have Bw16 := hE.below Bw15 (HGS.out _ Bw15) rfl
              clear Bw15 hE hJ p_t10 lk_t10 d_t10
              go_wp2_with (first
                | (have hgo := Bw16; clear hgo
                   refine wpList_load_cat rfl (.tmp 54) rfl (HC31.out _ Bw16) rfl ?_
                   have Bw17 := Bw16
                   clear Bw16)
                | (have hgo := Bw17; clear hgo
                   refine wpList_shr7 rfl (.tmp 55) (.const (.int .u64 7)) rfl rfl rfl HSH.out HQL.out ?_
                   have Bw18 := Bw17
                   clear Bw17)
                | (have hgo := Bw18; clear hgo
                   refine wpList_load_given rfl 61 (.tmp 10) rfl 16 arrFe r_t10 rfl (by omega) ?_
                   simp only [Nat.zero_add]
                   have Bw19 := Bw18
                   clear Bw18)
                | (have hgo := Bw19; clear hgo
                   refine wpList_value_given rfl (.agg (arrOf 16 (feF 0))) (by rw [exec_mkOp]; exact exec_zeroFe _ _) ?_
                   have Bw20 := Bw19
                   clear Bw19)
                | (have hgo := Bw20; clear hgo
                   refine wpList_value_given rfl (.bool false) (by rw [exec_mkOp]; exact exec_Fe_eq2 _ _ _ _ Hx.out p25_pos (decide_eq_false HX0.out) rfl rfl) ?_
                   have Bw21 := Bw20
                   clear Bw20))
              have Bw22 := Bw21.drew
              replace r_t2 := World.rowIs.drew r_t2
              replace r_t5 := World.rowIs.drew r_t5
              replace r_t7 := World.rowIs.drew r_t7
              replace r_t8 := World.rowIs.drew r_t8
              replace r_t9 := World.rowIs.drew r_t9
              replace r_t10 := World.rowIs.drew r_t10
              clear Bw21
              refine zpo [b_t2] (.rd 0 (.rd 1 .done)) #[true, true, false, false, false, false] [2, 3, 4, 5] [some 74, some 75, none, some 3] [[], [0], [0, 1], [0, 1, 2]] [(0, []), (1, []), (2, []), (3, [0, 1, 2]), (4, [3, 2, 0, 1, 2, 3]), (5, [4, 0, 1, 2, 3, 4])] 3 ?_
              refine zld (feF x) arrFe r_t10 (cont1 (Ne.symm n_t2_t10)) (fun i hi => by rw [Nat.zero_add]) rfl rfl rfl rfl rfl (by omega) ?_
              refine zld (feF Y) arrFe r_t5 (cont1 (Ne.symm n_t2_t5)) (fun i hi => by rw [Nat.zero_add]) rfl rfl rfl rfl rfl (by omega) ?_
              simp only [Act.put, zA, zB, zC]
              refine lintz_leaf ?_
              refine po_start [.val (.agg (arrOf 16 (feF 1))), .val (.agg (arrOf 48 (ptF x Y 1))), .nil, .val ((.int .i64 0))] [⟨b_t2, 63, 48, (u64f fun _ => 0), 2, (ptF x Y 1)⟩] (fun i hi => by obtain rfl : i = 0 := by { have h9 : i < 1 := hi; omega }; exact r_t2) (fun HWF m gz wa p az hp hm hmp hcl hdn hE hJ hS hO => ?_) (fun gz wa hE hJ => ?_)
              · rcases (show p = 0 ∨ p = 1 ∨ p = 2 ∨ p = 3 by have h9 : p < 4 := hp; omega) with rfl | rfl | rfl | rfl
                · exact po_k HWF hJ hE (refSmall_any 1 _ (by decide)) rfl rfl rfl rfl rfl rfl (ar1 rfl)
                · have e72 : az.eval (.tmp 72) = .agg (arrOf 16 (feF x)) := hO 72 rfl
                  have e73 : az.eval (.tmp 73) = .agg (arrOf 16 (feF Y)) := hO 73 rfl
                  have e74 := po_e hS hdn hJ 0 74 rfl rfl rfl rfl
                  exact po_p _ HWF hJ hE rfl rfl rfl rfl rfl rfl rfl (exec_build_as _ _ _ (by simp only [List.map_toArray, List.map_cons, List.map_nil, e72, e73, e74]; exact builtP x Y 1))
                · exact po_storeOld 0 (.tmp 2) (.tmp 75) 63 b_t2 48 _ (by rw [hm]; exact hp) hmp hJ rfl (show 0 < 1 by decide) rfl rfl rfl rfl rfl (World.rowIs.lt r_t2) (by simp) (by kernel_rfl) po_ne1 hE rfl rfl rfl rfl rfl (hO 2 rfl) (po_e hS hdn hJ 1 75 rfl rfl rfl rfl) arrP (fun j _ => ptF_one _ _ _ j)
                · exact po_p _ HWF hJ hE rfl rfl rfl rfl rfl rfl rfl (x_assign rfl)
              · rw [putO_true _ _ _ _ _ rfl]
                simp only [putA, Nat.zero_add, Nat.reduceAdd]
                rw [hJ.tt 0 rfl, hJ.tt 1 rfl, hJ.tt 3 rfl]
                simp only [Act.put, zA, zB, zC]
                refine po_end ?_
                replace r_t2 : wa.rowIs b_t2 63 48 (ptF x Y 1) := hJ.old 0 (show 0 < 1 by decide) (show 2 < 4 by decide)
                replace r_t5 := Keep.row hE r_t5 (cont1 (Ne.symm n_t2_t5))
                replace r_t7 := Keep.row hE r_t7 (cont1 (Ne.symm n_t2_t7))
                replace r_t8 := Keep.row hE r_t8 (cont1 (Ne.symm n_t2_t8))
                replace r_t9 := Keep.row hE r_t9 (cont1 (Ne.symm n_t2_t9))
                replace r_t10 := Keep.row hE r_t10 (cont1 (Ne.symm n_t2_t10))
                have Bw23 := hE.below Bw22 (HGS.out _ Bw22) (keep_all1 l_t2)
                clear Bw22 hE hJ 
                go_wp2
                exact ret_cell_as_tmp _ rfl arrP r_t2 rfl rfl (by omega) (fun _ _ => rfl) rfl ⟨by rw [HYv.out]; rfl, Bw23⟩
        · by_cases hx0 : x = 0
          · skip
            have HX0 := Lib.hid hx0
            have HSH : Hid (1 = q / 128) := Lib.hid ho.symm
            obtain rfl := H4.out x hx (HSG.out.trans ho) hx0
            clear H3 H4 H5 H7 HSG hx ho hx0
            go_wp2
            have Bw15 := Bw14.drew
            replace r_t2 := World.rowIs.drew r_t2
            replace r_t5 := World.rowIs.drew r_t5
            replace r_t7 := World.rowIs.drew r_t7
            replace r_t8 := World.rowIs.drew r_t8
            replace r_t9 := World.rowIs.drew r_t9
            clear Bw14
            refine zpo [] (.rd 0 (.rd 1 .done)) #[true, true, false, false, false, false, false, false, false, false, false] [2, 3, 4, 5, 6, 7, 8, 9, 10] [some 48, some 49, some 50, some 45, some 51, some 52, some 10, none, some 11] [[], [0], [1], [2], [3], [3], [], [0, 1, 2, 3, 4, 6], [0, 1, 2, 3, 4, 5, 6, 7]] [(0, []), (1, []), (2, [1]), (3, [0, 2, 2]), (4, [3, 3]), (5, [4]), (6, [5]), (7, [5]), (8, []), (9, [8, 6, 4, 0, 1, 2, 3, 4, 5, 6, 8]), (10, [7, 9, 0, 1, 2, 3, 4, 5, 6, 7, 8, 9])] 3 ?_
            refine zld (feF (subP p25 (mulP Y Y) 1)) arrFe r_t8 rfl (fun i hi => by rw [Nat.zero_add]) rfl rfl rfl rfl rfl (by omega) ?_
            refine zld (feF (addP (mulP dP (mulP Y Y)) 1)) arrFe r_t9 rfl (fun i hi => by rw [Nat.zero_add]) rfl rfl rfl rfl rfl (by omega) ?_
            simp only [Act.put, zA, zB, zC]
            refine lintz_leaf ?_
            refine po_start [.val (.agg (arrOf 16 (feF (invP (addP (mulP dP (mulP Y Y)) 1))))), .val (.agg (arrOf 16 (feF (mulP (subP p25 (mulP Y Y) 1) (invP (addP (mulP dP (mulP Y Y)) 1)))))), .val (.tuple #[.agg (arrOf 16 (feF x)), .int .i64 0]), .val (.tuple #[.agg (arrOf 16 (feF x)), .int .i64 0]), .val (.agg (arrOf 16 (feF x))), .val (.int .i64 0), .row 61 16 (u64f fun _ => 0) 7 (feF x), .nil, .val (.int .i64 0)] [] (fun i hi => absurd hi (Nat.not_lt_zero _)) (fun HWF m gz wa p az hp hm hmp hcl hdn hE hJ hS hO => ?_) (fun gz wa hE hJ => ?_)
            · rcases (show p = 0 ∨ p = 1 ∨ p = 2 ∨ p = 3 ∨ p = 4 ∨ p = 5 ∨ p = 6 ∨ p = 7 ∨ p = 8 by have h9 : p < 9 := hp; omega) with rfl | rfl | rfl | rfl | rfl | rfl | rfl | rfl | rfl
              · have e47 : az.eval (.tmp 47) = .agg (arrOf 16 (feF (addP (mulP dP (mulP Y Y)) 1))) := hO 47 rfl
                exact po_k HWF hJ hE (refInv5_any (addP (mulP dP (mulP Y Y)) 1) _ (addP_lt _ _)) rfl rfl rfl rfl rfl rfl (ar1 e47)
              · have e46 : az.eval (.tmp 46) = .agg (arrOf 16 (feF (subP p25 (mulP Y Y) 1))) := hO 46 rfl
                exact po_k HWF hJ hE (refMul5_any (subP p25 (mulP Y Y) 1) (invP (addP (mulP dP (mulP Y Y)) 1)) _ (subP_lt _ _) (invP_lt _)) rfl rfl rfl rfl rfl rfl (ar2 e46 (po_e hS hdn hJ 0 48 rfl rfl rfl rfl))
              · exact po_k HWF hJ hE (HRT.out _) rfl rfl rfl rfl rfl rfl (ar1 (po_e hS hdn hJ 1 49 rfl rfl rfl rfl))
              · exact po_p _ HWF hJ hE rfl rfl rfl rfl rfl rfl rfl (x_move (po_e hS hdn hJ 2 50 rfl rfl rfl rfl))
              · have e45 := po_e hS hdn hJ 3 45 rfl rfl rfl rfl
                exact po_p (Op.extract (Operand.tmp 45) 0) HWF hJ hE rfl rfl rfl rfl rfl rfl rfl (by first | (simp only [execOp, mkOp, eval_const, e45]; done) | (simp only [execOp, mkOp, eval_const, e45]; go_simp))
              · have e45 := po_e hS hdn hJ 3 45 rfl rfl rfl rfl
                exact po_p (Op.extract (Operand.tmp 45) 1) HWF hJ hE rfl rfl rfl rfl rfl rfl rfl (by first | (simp only [execOp, mkOp, eval_const, e45]; done) | (simp only [execOp, mkOp, eval_const, e45]; go_simp))
              · exact po_alloc 10 _ 61 16 (u64f fun _ => 0) _ _ HWF hJ rfl (po_notyet hcl hmp (by rw [hm]; exact hp) (by decide)) hE rfl rfl rfl rfl rfl rfl zeroFe
              · exact po_sr 6 hm hp hmp hdn hJ hE rfl rfl rfl rfl rfl rfl rfl rfl (po_e0 hS hdn 6 10 rfl rfl rfl) (po_e hS hdn hJ 4 51 rfl rfl rfl rfl) arrFe (fun _ _ => rfl)
              · exact po_p _ HWF hJ hE rfl rfl rfl rfl rfl rfl rfl (x_assign (po_e hS hdn hJ 5 52 rfl rfl rfl rfl))
            · obtain ⟨b_t10, p_t10, lk_t10, r_t10, d_t10⟩ := hJ.row 6 (by decide) rfl (by decide)
              rw [putO_true _ _ _ _ _ rfl]
              simp only [putA, Nat.zero_add, Nat.reduceAdd]
              rw [hJ.tt 0 rfl, hJ.tt 1 rfl, hJ.tt 2 rfl, hJ.tt 3 rfl, hJ.tt 4 rfl, hJ.tt 5 rfl, p_t10, hJ.tt 8 rfl]
              simp only [Act.put, zA, zB, zC]
              refine po_end ?_
              have n_t2_t10 := zrn r_t2 lk_t10
              have n_t5_t10 := zrn r_t5 lk_t10
              have n_t7_t10 := zrn r_t7 lk_t10
              have n_t8_t10 := zrn r_t8 lk_t10
              have n_t9_t10 := zrn r_t9 lk_t10
              have l_t10 := zrl HGS Bw15 lk_t10
              replace r_t2 := Keep.row hE r_t2 rfl
              replace r_t5 := Keep.row hE r_t5 rfl
              replace r_t7 := Keep.row hE r_t7 rfl
              replace r_t8 := Keep.row hE r_t8 rfl
              replace r_t9 := Keep.row hE r_t9 rfl
              have Bw16 := hE.below Bw15 (HGS.out _ Bw15) rfl
              clear Bw15 hE hJ p_t10 lk_t10 d_t10
              go_wp2_with (first
                | (have hgo := Bw16; clear hgo
                   refine wpList_load_cat rfl (.tmp 54) rfl (HC31.out _ Bw16) rfl ?_
                   have Bw17 := Bw16
                   clear Bw16)
                | (have hgo := Bw17; clear hgo
                   refine wpList_shr7 rfl (.tmp 55) (.const (.int .u64 7)) rfl rfl rfl HSH.out HQL.out ?_
                   have Bw18 := Bw17
                   clear Bw17)
                | (have hgo := Bw18; clear hgo
                   refine wpList_load_given rfl 61 (.tmp 10) rfl 16 arrFe r_t10 rfl (by omega) ?_
                   simp only [Nat.zero_add]
                   have Bw19 := Bw18
                   clear Bw18)
                | (have hgo := Bw19; clear hgo
                   refine wpList_value_given rfl (.agg (arrOf 16 (feF 0))) (by rw [exec_mkOp]; exact exec_zeroFe _ _) ?_
                   have Bw20 := Bw19
                   clear Bw19)
                | (have hgo := Bw20; clear hgo
                   refine wpList_value_given rfl (.bool true) (by rw [exec_mkOp]; exact exec_Fe_eq2 _ _ _ _ Hx.out p25_pos (decide_eq_true HX0.out) rfl rfl) ?_
                   have Bw21 := Bw20
                   clear Bw20)
                | (have hgo := Bw21; clear hgo
                   go_at_call 80
                   refine (refZero_any _).mono ?_
                   rintro e w40 ⟨rfl, kk⟩
                   replace r_t2 := zrb r_t2 kk
                   replace r_t5 := zrb r_t5 kk
                   replace r_t7 := zrb r_t7 kk
                   replace r_t8 := zrb r_t8 kk
                   replace r_t9 := zrb r_t9 kk
                   replace r_t10 := zrb r_t10 kk
                   have Bw22 := zbt HGS Bw21 kk
                   clear Bw21 kk)
                | (have hgo := Bw22; clear hgo
                   refine wpList_store_as rfl 63 (.tmp 2) (.tmp 68) rfl 48 (ptF 0 1 1) arrP r_t2 rfl rfl (by omega) (fun j _ => ptF_one _ _ _ j) (fun i hi => putN_whole hi) ?_
                   intro w41 q gk
                   replace r_t5 := gb_rowIs r_t5 gk (Ne.symm n_t2_t5)
                   replace r_t7 := gb_rowIs r_t7 gk (Ne.symm n_t2_t7)
                   replace r_t8 := gb_rowIs r_t8 gk (Ne.symm n_t2_t8)
                   replace r_t9 := gb_rowIs r_t9 gk (Ne.symm n_t2_t9)
                   replace r_t10 := gb_rowIs r_t10 gk (Ne.symm n_t2_t10)
                   replace r_t2 := q
                   have Bw23 := zbg HGS Bw22 gk l_t2
                   clear Bw22 gk q))
              exact ret_cell_as_tmp _ rfl arrP r_t2 rfl rfl (by omega) (fun _ _ => rfl) rfl ⟨rfl, Bw23⟩
          · skip
            have HX0 := Lib.hid hx0
            have HSH : Hid (1 = q / 128) := Lib.hid ho.symm
            obtain rfl := H7.out x hx (HSG.out.trans ho) hx0
            clear H3 H4 H5 H7 HSG hx ho hx0
            go_wp2
            have Bw15 := Bw14.drew
            replace r_t2 := World.rowIs.drew r_t2
            replace r_t5 := World.rowIs.drew r_t5
            replace r_t7 := World.rowIs.drew r_t7
            replace r_t8 := World.rowIs.drew r_t8
            replace r_t9 := World.rowIs.drew r_t9
            clear Bw14
            refine zpo [] (.rd 0 (.rd 1 .done)) #[true, true, false, false, false, false, false, false, false, false, false] [2, 3, 4, 5, 6, 7, 8, 9, 10] [some 48, some 49, some 50, some 45, some 51, some 52, some 10, none, some 11] [[], [0], [1], [2], [3], [3], [], [0, 1, 2, 3, 4, 6], [0, 1, 2, 3, 4, 5, 6, 7]] [(0, []), (1, []), (2, [1]), (3, [0, 2, 2]), (4, [3, 3]), (5, [4]), (6, [5]), (7, [5]), (8, []), (9, [8, 6, 4, 0, 1, 2, 3, 4, 5, 6, 8]), (10, [7, 9, 0, 1, 2, 3, 4, 5, 6, 7, 8, 9])] 3 ?_
            refine zld (feF (subP p25 (mulP Y Y) 1)) arrFe r_t8 rfl (fun i hi => by rw [Nat.zero_add]) rfl rfl rfl rfl rfl (by omega) ?_
            refine zld (feF (addP (mulP dP (mulP Y Y)) 1)) arrFe r_t9 rfl (fun i hi => by rw [Nat.zero_add]) rfl rfl rfl rfl rfl (by omega) ?_
            simp only [Act.put, zA, zB, zC]
            refine lintz_leaf ?_
            refine po_start [.val (.agg (arrOf 16 (feF (invP (addP (mulP dP (mulP Y Y)) 1))))), .val (.agg (arrOf 16 (feF (mulP (subP p25 (mulP Y Y) 1) (invP (addP (mulP dP (mulP Y Y)) 1)))))), .val (.tuple #[.agg (arrOf 16 (feF x)), .int .i64 0]), .val (.tuple #[.agg (arrOf 16 (feF x)), .int .i64 0]), .val (.agg (arrOf 16 (feF x))), .val (.int .i64 0), .row 61 16 (u64f fun _ => 0) 7 (feF x), .nil, .val (.int .i64 0)] [] (fun i hi => absurd hi (Nat.not_lt_zero _)) (fun HWF m gz wa p az hp hm hmp hcl hdn hE hJ hS hO => ?_) (fun gz wa hE hJ => ?_)
            · rcases (show p = 0 ∨ p = 1 ∨ p = 2 ∨ p = 3 ∨ p = 4 ∨ p = 5 ∨ p = 6 ∨ p = 7 ∨ p = 8 by have h9 : p < 9 := hp; omega) with rfl | rfl | rfl | rfl | rfl | rfl | rfl | rfl | rfl
              · have e47 : az.eval (.tmp 47) = .agg (arrOf 16 (feF (addP (mulP dP (mulP Y Y)) 1))) := hO 47 rfl
                exact po_k HWF hJ hE (refInv5_any (addP (mulP dP (mulP Y Y)) 1) _ (addP_lt _ _)) rfl rfl rfl rfl rfl rfl (ar1 e47)
              · have e46 : az.eval (.tmp 46) = .agg (arrOf 16 (feF (subP p25 (mulP Y Y) 1))) := hO 46 rfl
                exact po_k HWF hJ hE (refMul5_any (subP p25 (mulP Y Y) 1) (invP (addP (mulP dP (mulP Y Y)) 1)) _ (subP_lt _ _) (invP_lt _)) rfl rfl rfl rfl rfl rfl (ar2 e46 (po_e hS hdn hJ 0 48 rfl rfl rfl rfl))
              · exact po_k HWF hJ hE (HRT.out _) rfl rfl rfl rfl rfl rfl (ar1 (po_e hS hdn hJ 1 49 rfl rfl rfl rfl))
              · exact po_p _ HWF hJ hE rfl rfl rfl rfl rfl rfl rfl (x_move (po_e hS hdn hJ 2 50 rfl rfl rfl rfl))
              · have e45 := po_e hS hdn hJ 3 45 rfl rfl rfl rfl
                exact po_p (Op.extract (Operand.tmp 45) 0) HWF hJ hE rfl rfl rfl rfl rfl rfl rfl (by first | (simp only [execOp, mkOp, eval_const, e45]; done) | (simp only [execOp, mkOp, eval_const, e45]; go_simp))
              · have e45 := po_e hS hdn hJ 3 45 rfl rfl rfl rfl
                exact po_p (Op.extract (Operand.tmp 45) 1) HWF hJ hE rfl rfl rfl rfl rfl rfl rfl (by first | (simp only [execOp, mkOp, eval_const, e45]; done) | (simp only [execOp, mkOp, eval_const, e45]; go_simp))
              · exact po_alloc 10 _ 61 16 (u64f fun _ => 0) _ _ HWF hJ rfl (po_notyet hcl hmp (by rw [hm]; exact hp) (by decide)) hE rfl rfl rfl rfl rfl rfl zeroFe
              · exact po_sr 6 hm hp hmp hdn hJ hE rfl rfl rfl rfl rfl rfl rfl rfl (po_e0 hS hdn 6 10 rfl rfl rfl) (po_e hS hdn hJ 4 51 rfl rfl rfl rfl) arrFe (fun _ _ => rfl)
              · exact po_p _ HWF hJ hE rfl rfl rfl rfl rfl rfl rfl (x_assign (po_e hS hdn hJ 5 52 rfl rfl rfl rfl))
            · obtain ⟨b_t10, p_t10, lk_t10, r_t10, d_t10⟩ := hJ.row 6 (by decide) rfl (by decide)
              rw [putO_true _ _ _ _ _ rfl]
              simp only [putA, Nat.zero_add, Nat.reduceAdd]
              rw [hJ.tt 0 rfl, hJ.tt 1 rfl, hJ.tt 2 rfl, hJ.tt 3 rfl, hJ.tt 4 rfl, hJ.tt 5 rfl, p_t10, hJ.tt 8 rfl]
              simp only [Act.put, zA, zB, zC]
              refine po_end ?_
              have n_t2_t10 := zrn r_t2 lk_t10
              have n_t5_t10 := zrn r_t5 lk_t10
              have n_t7_t10 := zrn r_t7 lk_t10
              have n_t8_t10 := zrn r_t8 lk_t10
              have n_t9_t10 := zrn r_t9 lk_t10
              have l_t10 := zrl HGS Bw15 lk_t10
              replace r_t2 := Keep.row hE r_t2 rfl
              replace r_t5 := Keep.row hE r_t5 rfl
              replace r_t7 := Keep.row hE r_t7 rfl
              replace r_t8 := Keep.row hE r_t8 rfl
              replace r_t9 := Keep.row hE r_t9 rfl
              have Bw16 := hE.below Bw15 (HGS.out _ Bw15) rfl
              clear Bw15 hE hJ p_t10 lk_t10 d_t10
              go_wp2_with (first
                | (have hgo := Bw16; clear hgo
                   refine wpList_load_cat rfl (.tmp 54) rfl (HC31.out _ Bw16) rfl ?_
                   have Bw17 := Bw16
                   clear Bw16)
                | (have hgo := Bw17; clear hgo
                   refine wpList_shr7 rfl (.tmp 55) (.const (.int .u64 7)) rfl rfl rfl HSH.out HQL.out ?_
                   have Bw18 := Bw17
                   clear Bw17)
                | (have hgo := Bw18; clear hgo
                   refine wpList_load_given rfl 61 (.tmp 10) rfl 16 arrFe r_t10 rfl (by omega) ?_
                   simp only [Nat.zero_add]
                   have Bw19 := Bw18
                   clear Bw18)
                | (have hgo := Bw19; clear hgo
                   refine wpList_value_given rfl (.agg (arrOf 16 (feF 0))) (by rw [exec_mkOp]; exact exec_zeroFe _ _) ?_
                   have Bw20 := Bw19
                   clear Bw19)
                | (have hgo := Bw20; clear hgo
                   refine wpList_value_given rfl (.bool false) (by rw [exec_mkOp]; exact exec_Fe_eq2 _ _ _ _ Hx.out p25_pos (decide_eq_false HX0.out) rfl rfl) ?_
                   have Bw21 := Bw20
                   clear Bw20)
                | (have hgo := Bw21; clear hgo
                   refine wpList_load_as rfl 61 (.tmp 10) rfl 16 (feF x) arrFe r_t10 rfl (by omega) (fun i hi => by rw [Nat.zero_add]) ?_
                   have Bw22 := Bw21
                   clear Bw21)
                | (have hgo := Bw22; clear hgo
                   go_at_call 99
                   refine (refNeg5_any x _ Hx.out).mono ?_
                   rintro e w41 ⟨rfl, kk⟩
                   replace r_t2 := zrb r_t2 kk
                   replace r_t5 := zrb r_t5 kk
                   replace r_t7 := zrb r_t7 kk
                   replace r_t8 := zrb r_t8 kk
                   replace r_t9 := zrb r_t9 kk
                   replace r_t10 := zrb r_t10 kk
                   have Bw23 := zbt HGS Bw22 kk
                   clear Bw22 kk)
                | (have hgo := Bw23; clear hgo
                   refine wpList_store_as rfl 61 (.tmp 10) (.tmp 71) rfl 16 (feF (oppP x)) arrFe r_t10 rfl rfl (by omega) (fun _ _ => rfl) (fun i hi => putN_whole hi) ?_
                   intro w42 q gk
                   replace r_t2 := gb_rowIs r_t2 gk n_t2_t10
                   replace r_t5 := gb_rowIs r_t5 gk n_t5_t10
                   replace r_t7 := gb_rowIs r_t7 gk n_t7_t10
                   replace r_t8 := gb_rowIs r_t8 gk n_t8_t10
                   replace r_t9 := gb_rowIs r_t9 gk n_t9_t10
                   replace r_t10 := q
                   have Bw24 := zbg HGS Bw23 gk l_t10
                   clear Bw23 gk q))
              have Bw25 := Bw24.drew
              replace r_t2 := World.rowIs.drew r_t2
              replace r_t5 := World.rowIs.drew r_t5
              replace r_t7 := World.rowIs.drew r_t7
              replace r_t8 := World.rowIs.drew r_t8
              replace r_t9 := World.rowIs.drew r_t9
              replace r_t10 := World.rowIs.drew r_t10
              clear Bw24
              refine zpo [b_t2] (.rd 0 (.rd 1 .done)) #[true, true, false, false, false, false] [2, 3, 4, 5] [some 74, some 75, none, some 3] [[], [0], [0, 1], [0, 1, 2]] [(0, []), (1, []), (2, []), (3, [0, 1, 2]), (4, [3, 2, 0, 1, 2, 3]), (5, [4, 0, 1, 2, 3, 4])] 3 ?_
              refine zld (feF (oppP x)) arrFe r_t10 (cont1 (Ne.symm n_t2_t10)) (fun i hi => by rw [Nat.zero_add]) rfl rfl rfl rfl rfl (by omega) ?_
              refine zld (feF Y) arrFe r_t5 (cont1 (Ne.symm n_t2_t5)) (fun i hi => by rw [Nat.zero_add]) rfl rfl rfl rfl rfl (by omega) ?_
              simp only [Act.put, zA, zB, zC]
              refine lintz_leaf ?_
              refine po_start [.val (.agg (arrOf 16 (feF 1))), .val (.agg (arrOf 48 (ptF (oppP x) Y 1))), .nil, .val ((.int .i64 0))] [⟨b_t2, 63, 48, (u64f fun _ => 0), 2, (ptF (oppP x) Y 1)⟩] (fun i hi => by obtain rfl : i = 0 := by { have h9 : i < 1 := hi; omega }; exact r_t2) (fun HWF m gz wa p az hp hm hmp hcl hdn hE hJ hS hO => ?_) (fun gz wa hE hJ => ?_)
              · rcases (show p = 0 ∨ p = 1 ∨ p = 2 ∨ p = 3 by have h9 : p < 4 := hp; omega) with rfl | rfl | rfl | rfl
                · exact po_k HWF hJ hE (refSmall_any 1 _ (by decide)) rfl rfl rfl rfl rfl rfl (ar1 rfl)
                · have e72 : az.eval (.tmp 72) = .agg (arrOf 16 (feF (oppP x))) := hO 72 rfl
                  have e73 : az.eval (.tmp 73) = .agg (arrOf 16 (feF Y)) := hO 73 rfl
                  have e74 := po_e hS hdn hJ 0 74 rfl rfl rfl rfl
                  exact po_p _ HWF hJ hE rfl rfl rfl rfl rfl rfl rfl (exec_build_as _ _ _ (by simp only [List.map_toArray, List.map_cons, List.map_nil, e72, e73, e74]; exact builtP (oppP x) Y 1))
                · exact po_storeOld 0 (.tmp 2) (.tmp 75) 63 b_t2 48 _ (by rw [hm]; exact hp) hmp hJ rfl (show 0 < 1 by decide) rfl rfl rfl rfl rfl (World.rowIs.lt r_t2) (by simp) (by kernel_rfl) po_ne1 hE rfl rfl rfl rfl rfl (hO 2 rfl) (po_e hS hdn hJ 1 75 rfl rfl rfl rfl) arrP (fun j _ => ptF_one _ _ _ j)
                · exact po_p _ HWF hJ hE rfl rfl rfl rfl rfl rfl rfl (x_assign rfl)
              · rw [putO_true _ _ _ _ _ rfl]
                simp only [putA, Nat.zero_add, Nat.reduceAdd]
                rw [hJ.tt 0 rfl, hJ.tt 1 rfl, hJ.tt 3 rfl]
                simp only [Act.put, zA, zB, zC]
                refine po_end ?_
                replace r_t2 : wa.rowIs b_t2 63 48 (ptF (oppP x) Y 1) := hJ.old 0 (show 0 < 1 by decide) (show 2 < 4 by decide)
                replace r_t5 := Keep.row hE r_t5 (cont1 (Ne.symm n_t2_t5))
                replace r_t7 := Keep.row hE r_t7 (cont1 (Ne.symm n_t2_t7))
                replace r_t8 := Keep.row hE r_t8 (cont1 (Ne.symm n_t2_t8))
                replace r_t9 := Keep.row hE r_t9 (cont1 (Ne.symm n_t2_t9))
                replace r_t10 := Keep.row hE r_t10 (cont1 (Ne.symm n_t2_t10))
                have Bw26 := hE.below Bw25 (HGS.out _ Bw25) (keep_all1 l_t2)
                clear Bw25 hE hJ 
                go_wp2
                exact ret_cell_as_tmp _ rfl arrP r_t2 rfl rfl (by omega) (fun _ _ => rfl) rfl ⟨by rw [HYv.out]; rfl, Bw26⟩
theorem refDecode_6 (v : Value) (l : List UInt8) (w : World) (h : Bs w v l) (hl : l.length = 32) (hY : numL l 32 % top < p25) (x : Nat) (hx : decX (numL l 32 % top) = some x) (ho : numL l 32 / top = 0) (hx0 : x ≠ 0) : Calls Tryz.prog 44 #[v] w fun e w' => e = .returned (.tuple #[.agg (arrOf 48 (ptF x (numL l 32 % top) 1)), .int .i64 0]) ∧ Below w.heap.size w w' := by
  refine refDecode_r v l w h hl hY _ (fun g => ?_) (fun y g a b => ?_) (fun y g a => ?_) (fun y g a b => ?_)
  · cases hx.symm.trans g
  · exact absurd (ho.symm.trans a) (by decide)
  · cases hx.symm.trans g; try rfl
  · exact absurd (ho.symm.trans a) (by decide)
end Go.Proofs.YtonhpmaiagbheaaGreat

/- The document's numbers below L, bytes, the greatest first: order, above. -/
namespace Go.Proofs.YtonhpmaiagbheaaGreat
open Go.RowKit Go.Deep
set_option linter.unusedSimpArgs false
set_option linter.unusedVariables false

theorem less_atB (V P i : Nat) (h : V / 256 ^ (i + 1) = P / 256 ^ (i + 1)) (hne : byteN V i ≠ byteN P i) : byteN P i < byteN V i ↔ P ≤ V := by
  have e : ∀ X : Nat, X / 256 ^ i = 256 * (X / 256 ^ (i + 1)) + byteN X i := fun X => by
    unfold byteN
    rw [Nat.pow_succ, ← Nat.div_div_eq_div_mul]
    omega
  have h1 := e V
  have h2 := e P
  rw [h] at h1
  constructor
  · intro hlt
    apply Classical.byContradiction
    intro hn
    have := Nat.div_le_div_right (c := 256 ^ i) (show V ≤ P by omega)
    omega
  · intro hle
    have := Nat.div_le_div_right (c := 256 ^ i) hle
    omega
theorem same_atB (V P i : Nat) (h : V / 256 ^ (i + 1) = P / 256 ^ (i + 1)) (he : byteN V i = byteN P i) : V / 256 ^ i = P / 256 ^ i := by
  have e : ∀ X : Nat, X / 256 ^ i = 256 * (X / 256 ^ (i + 1)) + byteN X i := fun X => by
    unfold byteN
    rw [Nat.pow_succ, ← Nat.div_div_eq_div_mul]
    omega
  rw [e V, e P, h, he]
/-- The cells of a number's n bytes, the greatest first. -/
def bF (n V : Nat) : Nat → Value := fun i => .int .u8 ((byteN V (n - 1 - i) : Nat) : Int)
set_option maxRecDepth 10000 in
theorem refOrder_any (w : World) : Calls Tryz.prog 118 #[] w fun e w' => e = .returned (.slice (some ⟨w.heap.size, 0, none⟩) 32 32) ∧ w'.rowIs w.heap.size 5 32 (bF 32 ordL) ∧ Below w.heap.size w w' := by
  go_enter Tryz.func118, Tryz.ntmps118
  go_wp2
  go_ret
  refine ⟨rfl, ?_, (Below.refl _ _).alloc (Nat.le_refl _) _⟩
  have h := rowIs_arr w 32 (bF 32 ordL) 5
  have e : arrOf 32 (bF 32 ordL) = #[Value.int .u8 0x10, .int .u8 0, .int .u8 0, .int .u8 0, .int .u8 0, .int .u8 0, .int .u8 0, .int .u8 0, .int .u8 0, .int .u8 0, .int .u8 0, .int .u8 0, .int .u8 0, .int .u8 0, .int .u8 0, .int .u8 0, .int .u8 0x14, .int .u8 0xde, .int .u8 0xf9, .int .u8 0xde, .int .u8 0xa2, .int .u8 0xf7, .int .u8 0x9c, .int .u8 0xd6, .int .u8 0x58, .int .u8 0x12, .int .u8 0x63, .int .u8 0x1a, .int .u8 0x5c, .int .u8 0xf5, .int .u8 0xd3, .int .u8 0xed] := by kernel_rfl
  rw [e] at h
  exact h
theorem arrB33 : IsArr Tryz.prog 143 33 := ⟨by kernel_rfl, by kernel_rfl⟩
theorem zeroB33 : (Tryz.prog.info? 143).map (fun i => i.zero) = some (some (.agg (arrOf 33 fun _ => .int .u8 0))) := by kernel_rfl
theorem arrSc : IsArr Tryz.prog 67 32 := ⟨by kernel_rfl, by kernel_rfl⟩
theorem zeroSc : (Tryz.prog.info? 67).map (fun i => i.zero) = some (some (.agg (arrOf 32 fun _ => .int .u8 0))) := by kernel_rfl
theorem ordL_lt : ordL < 256 ^ 32 := by decide +kernel
theorem ordL_lt33 : ordL < 256 ^ 33 := by decide +kernel
set_option maxHeartbeats 1000000 in
theorem refAbove_any (V : Nat) (w : World) (hV : V < 256 ^ 33) : Calls Tryz.prog 119 #[.agg (arrOf 33 (bF 33 V))] w fun e w' => e = .returned (.bool (decide (ordL ≤ V))) ∧ Below w.heap.size w w' := by
  have ha0 := rowIs_arr w 33 (bF 33 V) 143
  have hb0 : Below w.heap.size w (w.alloc (.cells (arrOf 33 (bF 33 V)) 143)) := (Below.refl _ _).alloc (Nat.le_refl _) _
  have h33 : V / 256 ^ 33 = ordL / 256 ^ 33 := by rw [Nat.div_eq_of_lt hV, Nat.div_eq_of_lt ordL_lt33]
  have hc0 := ha0.cell (i := 0) (by omega)
  have hL32 : byteN ordL 32 = 0 := by decide +kernel
  have HLS := Lib.hid (less_atB V ordL 32 h33)
  have HSM := Lib.hid (same_atB V ordL 32 h33)
  unfold bF at hc0
  rw [show 33 - 1 - 0 = 32 from rfl] at hc0
  rw [hL32] at HLS HSM
  obtain ⟨x0, hx0⟩ := nat_var (byteN V 32)
  rw [← hx0] at hc0 HLS HSM
  clear h33 hV hL32 hx0
  go_enter Tryz.func119, Tryz.ntmps119
  by_cases hz : x0 = 0
  · have HE := Lib.hid (HSM.out hz)
    have hzI : (x0 : Int) = 0 := by omega
    rw [hzI] at hc0
    clear HLS HSM hz hzI
    go_wp2_with (go_at_call 118; refine (refOrder_any _).mono ?_; rintro e w1 ⟨rfl, hl1, hb1⟩
                 have ha1 := ha0.of_block (hb1.block _ ha0.lt)
                 have hB1 := hb0.trans (hb1.mono hb0.size)
                 have hc1 := (hb1.cell (p := ⟨w.heap.size, 0, none⟩) ha0.lt).trans hc0
                 clear ha0 hb0 hb1 hc0)
    clear hc1
    rw [World.size_alloc] at hl1
    generalize hga : w.heap.size = ga at *
    generalize ga + 1 = gl at *
    have HGA := Lib.hid hga
    clear hga
    go_loopw [4] (fun i wr => ∃ j : Nat, j ≤ 32 ∧ i = .int .i64 (j : Int) ∧ Hid (V / 256 ^ (32 - j) = ordL / 256 ^ (32 - j)) ∧ wr.rowIs ga 143 33 (bF 33 V) ∧ wr.rowIs gl 5 32 (bF 32 ordL) ∧ Below ga w wr) (fun i _ => 32 - (intOf i).toNat)
    case atStart => exact ⟨0, Nat.zero_le _, rfl, HE, ha1, hl1, hB1⟩
    case round =>
      clear ha1 hl1 hB1 HE
      obtain ⟨j, hj, rfl, HE, hA, hP, hB⟩ := hrel
      by_cases hlt : j < 32
      · have hcA := hA.cell (i := j + 1) (by omega)
        have hcP := hP.cell (i := j) (by omega)
        unfold bF at hcA hcP
        rw [show 33 - 1 - (j + 1) = 31 - j by omega] at hcA
        rw [show 32 - 1 - j = 31 - j by omega] at hcP
        have he2 := HE.out
        rw [show 32 - j = (31 - j) + 1 by omega] at he2
        have HL := Lib.hid (less_atB V ordL (31 - j) he2)
        have HS := Lib.hid (same_atB V ordL (31 - j) he2)
        have hlA := byteN_lt V (31 - j)
        have hlP := byteN_lt ordL (31 - j)
        have hjI : 0 ≤ (j : Int) ∧ (j : Int) < 32 := by omega
        have hwj : IntKind.i64.wrap ((j : Int) + 1) = ((j + 1 : Nat) : Int) := by rw [IntWalk.i64_in _ (by omega)]; omega
        obtain ⟨j1, hj1⟩ := nat_var (j + 1)
        rw [← hj1] at hwj hcA
        have hj1I : 0 ≤ (j1 : Int) ∧ (j1 : Int) < 33 := by omega
        clear he2 HE
        by_cases he : byteN V (31 - j) = byteN ordL (31 - j)
        · have HN : Hid (V / 256 ^ (32 - (j + 1)) = ordL / 256 ^ (32 - (j + 1))) := Lib.hid (by rw [show 32 - (j + 1) = 31 - j by omega]; exact HS.out he)
          rw [he] at hcA
          clear HL HS he hlA
          generalize byteN ordL (31 - j) = x at *
          have HJ1 := Lib.hid hj1
          clear hj1
          go_wp2
          go_region
          go_wp2
          go_roundw
          case rel => exact ⟨j + 1, by omega, by rw [HJ1.out], HN, hA.drew, hP.drew, hB.drew⟩
          case measure => (have h1 := HJ1.out; simp [intOf]; omega)
        · have hd : decide (ordL ≤ V) = decide (byteN ordL (31 - j) < byteN V (31 - j)) := by
            have h := HL.out he
            by_cases h2 : byteN ordL (31 - j) < byteN V (31 - j)
            · rw [decide_eq_true (h.1 h2), decide_eq_true h2]
            · rw [decide_eq_false (fun h3 => h2 (h.2 h3)), decide_eq_false h2]
          have HD := Lib.hid hd
          have hneI : ¬ ((byteN V (31 - j) : Nat) : Int) = ((byteN ordL (31 - j) : Nat) : Int) := by omega
          clear HL HS hd he hj1
          generalize byteN ordL (31 - j) = x at *
          generalize byteN V (31 - j) = y at *
          go_wp2
          go_region
          go_wp2
          go_region
          go_wp2
          go_ret
          exact ⟨by rw [HD.out]; simp, by rw [HGA.out]; exact hB.drew.drew⟩
      · obtain rfl : j = 32 := by omega
        have hEq : V = ordL := by have := HE.out; rwa [Nat.sub_self, Nat.pow_zero, Nat.div_one, Nat.div_one] at this
        have HD : Hid (decide (ordL ≤ V) = true) := Lib.hid (decide_eq_true (by rw [hEq]; exact Nat.le_refl _))
        clear hEq HE
        go_wp2
        go_ret
        exact ⟨by rw [HD.out]; rfl, by rw [HGA.out]; exact hB⟩
  · have HD : Hid (ordL ≤ V) := Lib.hid ((HLS.out hz).1 (Nat.pos_of_ne_zero hz))
    have hzI : ¬ (x0 : Int) = 0 := by omega
    clear HLS HSM hz
    rw [decide_eq_true HD.out]
    go_wp2_with (go_at_call 118; refine (refOrder_any _).mono ?_; rintro e w1 ⟨rfl, hl1, hb1⟩
                 have ha1 := ha0.of_block (hb1.block _ ha0.lt)
                 have hB1 := hb0.trans (hb1.mono hb0.size)
                 have hc1 := (hb1.cell (p := ⟨w.heap.size, 0, none⟩) ha0.lt).trans hc0
                 clear ha0 hb0 hb1 hc0)
    go_ret
    exact ⟨rfl, hB1⟩
end Go.Proofs.YtonhpmaiagbheaaGreat

/- The document's bytes the other way round. -/
namespace Go.Proofs.YtonhpmaiagbheaaGreat
open Go.RowKit Go.Deep
set_option linter.unusedSimpArgs false
set_option linter.unusedVariables false

theorem rev_step (l : List UInt8) (k : Nat) (h : k < l.length) : (l.drop k).reverse = (l.drop (k + 1)).reverse ++ [l[k]] := by
  rw [List.drop_eq_getElem_cons h, List.reverse_cons]
set_option maxHeartbeats 1000000 in
theorem refTurned_any (v : Value) (l : List UInt8) (w : World) (hv : Bs w v l) (hl : l.length ≤ 1000000) :
    Calls Tryz.prog 84 #[v] w fun e w' => ∃ v', e = .returned v' ∧ Owns w' w.heap.size v' l.reverse ∧ Below w.heap.size w w' := by
  obtain ⟨a, n, cap, rfl, hn, hc1, hc2, hB0⟩ := hv.shape
  have HV := Lib.hid hB0
  have HN := Lib.hid hn
  have hnl : n ≤ 1000000 := by omega
  have hwn : IntKind.i64.wrap ((n : Int) - 1) = (n : Int) - 1 := IntWalk.i64_in _ (by omega)
  have hown := Owns.nil w w.heap.size
  have hbel := Below.refl w.heap.size w
  clear hv hB0
  go_enter Tryz.func84, Tryz.ntmps84
  go_wp2
  generalize hg0 : w.heap.size = g0 at *
  have HG := Lib.hid hg0
  have HGS : Hid (∀ wq : World, Below g0 w wq → g0 ≤ wq.heap.size) := Lib.hid fun wq h => by rw [← HG.out]; exact h.size
  clear hg0 hn
  go_loopw [3, 4] (fun out ii wr => ∃ j : Nat, j ≤ n ∧ ii = .int .i64 ((j : Int) - 1) ∧ Owns wr g0 out (l.drop j).reverse ∧ Below g0 w wr) (fun _ ii _ => ((intOf ii) + 1).toNat)
  case atStart => exact ⟨n, Nat.le_refl _, rfl, by rw [List.drop_eq_nil_of_le (by rw [HN.out]; exact Nat.le_refl _)]; exact hown, hbel⟩
  case round =>
    clear hown hbel
    obtain ⟨j, hj, rfl, hown, hbel⟩ := hrel
    cases j with
    | zero =>
      go_wp2
      go_ret
      exact ⟨_, rfl, by rw [HG.out]; exact hown, by rw [HG.out]; exact hbel⟩
    | succ k =>
      have hk : k < n := by omega
      rw [show ((k + 1 : Nat) : Int) - 1 = (k : Int) by omega]
      have hk0 : 0 ≤ (k : Int) ∧ (k : Int) < (n : Int) := by omega
      obtain ⟨b, off, cap', he, _, _, hbl, hc⟩ := HV.out.open_n HN.out (by omega)
      cases he
      have hkl : k < l.length := by rw [HN.out]; exact hk
      have hci := hc k hkl
      have hci2 := (hbel.cell (p := ⟨b, off + k, none⟩) (by rw [← HG.out]; exact hbl)).trans hci
      have HST := Lib.hid (rev_step l k hkl)
      obtain ⟨x, hx⟩ : ∃ x, x = l[k] := ⟨_, rfl⟩
      rw [← hx] at hci2 HST
      have hob := hown.alloc (.cells #[.int .u8 (x.toNat : Int)] 5)
      have hbx := Bs.one wr x
      have hb1 := hbel.alloc (HGS.out _ hbel) (.cells #[.int .u8 (x.toNat : Int)] 5)
      have hge := HGS.out _ hb1
      have hll : (l.drop (k + 1)).reverse.length ≤ 1000000 := by rw [List.length_reverse, List.length_drop]; omega
      have hwk : IntKind.i64.wrap ((k : Int) - 1) = (k : Int) - 1 := IntWalk.i64_in _ (by omega)
      clear hci hc hx hown hbel hkl
      go_wp2_with (refine wpList_app rfl (.tmp 12) (.tmp 17) rfl g0 _ _ ((l.drop (k + 1)).reverse) [x] hob hbx rfl rfl (by simp only [List.length_cons, List.length_nil]; omega) hge ?_; intro v6 w6 hown6 hg6)
      have hbel6 : Below g0 w w6 := hb1.grown hg6 (HGS.out _ hb1) (fun q hq => Owns.block hob q hq)
      have hown7 : Owns w6 g0 v6 (l.drop k).reverse := by rw [HST.out]; exact hown6
      clear hown6 hob hb1 hbx
      go_roundw
      case rel => exact ⟨k, by omega, rfl, hown7, hbel6⟩
      case measure => (simp [intOf]; try omega)
end Go.Proofs.YtonhpmaiagbheaaGreat

/- Numbers below L by digits: twice a number and a bit, the difference; the numbers of the document's mod. -/
set_option linter.unusedSimpArgs false
set_option linter.unusedVariables false
namespace Go.Proofs.YtonhpmaiagbheaaGreat

/-- What is carried into the place p of 2 R + c. -/
def cyD (R c p : Nat) : Nat := (2 * (R % 256 ^ p) + c) / 256 ^ p
theorem cyD_zero (R c : Nat) : cyD R c 0 = c := by simp [cyD, Nat.mod_one]
theorem mod_next (R p : Nat) : R % 256 ^ (p + 1) = R % 256 ^ p + 256 ^ p * byteN R p := by
  unfold byteN
  rw [Nat.pow_succ, Nat.mod_mul]
theorem cyD_step (R c p : Nat) : (cyD R c p + 2 * byteN R p) % 256 = byteN (2 * R + c) p ∧ (cyD R c p + 2 * byteN R p) / 256 = cyD R c (p + 1) := by
  have hp := pow256_pos p
  have h1 : (2 * (R % 256 ^ (p + 1)) + c) / 256 ^ p = cyD R c p + 2 * byteN R p := by
    rw [mod_next]
    unfold cyD
    rw [show 2 * (R % 256 ^ p + 256 ^ p * byteN R p) + c = 2 * (R % 256 ^ p) + c + 256 ^ p * (2 * byteN R p) by rw [Nat.mul_add, Nat.mul_left_comm]; omega, Nat.add_mul_div_left _ _ hp]
  constructor
  · have h2 : 2 * R + c = 2 * (R % 256 ^ (p + 1)) + c + 256 ^ p * (256 * (2 * (R / 256 ^ (p + 1)))) := by
      have h3 := Nat.mod_add_div R (256 ^ (p + 1))
      have e : 256 ^ p * (256 * (2 * (R / 256 ^ (p + 1)))) = 2 * (256 ^ (p + 1) * (R / 256 ^ (p + 1))) := by rw [Nat.pow_succ]; simp only [Nat.mul_assoc, Nat.mul_left_comm]
      rw [e]
      generalize 256 ^ (p + 1) * (R / 256 ^ (p + 1)) = z at *
      omega
    unfold byteN at *
    rw [h2, Nat.add_mul_div_left _ _ hp, Nat.add_mul_mod_self_left, h1]
  · rw [← h1]
    unfold cyD
    rw [Nat.div_div_eq_div_mul, ← Nat.pow_succ]
theorem cyD_le (R c p : Nat) (hc : c ≤ 1) : cyD R c p ≤ 1 := by
  have hp := pow256_pos p
  have h := Nat.mod_lt R hp
  unfold cyD
  have : (2 * (R % 256 ^ p) + c) / 256 ^ p < 2 := by
    rw [Nat.div_lt_iff_lt_mul hp]
    omega
  omega
/-- What is carried into the place p of G + L. -/
def cyA (G L p : Nat) : Nat := (G % 256 ^ p + L % 256 ^ p) / 256 ^ p
theorem cyA_zero (G L : Nat) : cyA G L 0 = 0 := by simp [cyA, Nat.mod_one]
theorem cyA_le (G L p : Nat) : cyA G L p ≤ 1 := by
  have hp := pow256_pos p
  have h1 := Nat.mod_lt G hp
  have h2 := Nat.mod_lt L hp
  unfold cyA
  have : (G % 256 ^ p + L % 256 ^ p) / 256 ^ p < 2 := by
    rw [Nat.div_lt_iff_lt_mul hp]
    omega
  omega
theorem cyA_step (G L p : Nat) : byteN (G + L) p + 256 * cyA G L (p + 1) = byteN G p + byteN L p + cyA G L p := by
  have hp := pow256_pos p
  have h1 : (G % 256 ^ (p + 1) + L % 256 ^ (p + 1)) / 256 ^ p = cyA G L p + (byteN G p + byteN L p) := by
    rw [mod_next, mod_next]
    unfold cyA
    rw [show G % 256 ^ p + 256 ^ p * byteN G p + (L % 256 ^ p + 256 ^ p * byteN L p) = G % 256 ^ p + L % 256 ^ p + 256 ^ p * (byteN G p + byteN L p) by rw [Nat.mul_add]; omega, Nat.add_mul_div_left _ _ hp]
  have h2 : byteN (G + L) p = (cyA G L p + (byteN G p + byteN L p)) % 256 := by
    have h3 := Nat.mod_add_div G (256 ^ (p + 1))
    have h4 := Nat.mod_add_div L (256 ^ (p + 1))
    have e : G + L = G % 256 ^ (p + 1) + L % 256 ^ (p + 1) + 256 ^ p * (256 * (G / 256 ^ (p + 1) + L / 256 ^ (p + 1))) := by
      rw [← Nat.mul_assoc, show 256 ^ p * 256 = 256 ^ (p + 1) from rfl, Nat.mul_add]
      omega
    rw [show byteN (G + L) p = (G + L) / 256 ^ p % 256 from rfl, e, Nat.add_mul_div_left _ _ hp, Nat.add_mul_mod_self_left, h1]
  have h5 : cyA G L (p + 1) = (cyA G L p + (byteN G p + byteN L p)) / 256 := by
    rw [← h1]
    unfold cyA
    rw [Nat.div_div_eq_div_mul, ← Nat.pow_succ]
  omega
theorem double_lt {R c : Nat} (hR : R < ordL) (hc : c ≤ 1) : 2 * R + c < 2 * ordL := by omega
theorem sub_mod_L {D : Nat} (h1 : ordL ≤ D) (h2 : D < 2 * ordL) : D - ordL = D % ordL := by
  rw [Nat.mod_eq_sub_mod h1, Nat.mod_eq_of_lt (by omega)]
theorem double_mod (T c : Nat) : (2 * (T % ordL) + c) % ordL = (2 * T + c) % ordL := by
  rw [Nat.add_mod, Nat.mul_mod, Nat.mod_mod, ← Nat.mul_mod, ← Nat.add_mod]
theorem ordL_pos : 0 < ordL := by decide +kernel
theorem two_L_lt : 2 * ordL < 256 ^ 33 := by decide +kernel
end Go.Proofs.YtonhpmaiagbheaaGreat

/- The document's mod L. -/
namespace Go.Proofs.YtonhpmaiagbheaaGreat
open Go.RowKit Go.Deep
set_option linter.unusedSimpArgs false
set_option linter.unusedVariables false

theorem bF_zero (n i : Nat) : bF n 0 i = .int .u8 0 := by
  unfold bF byteN
  rw [Nat.zero_div, Nat.zero_mod]
  rfl
theorem exec_sliceFromArr {P : Program} {w : World} (ρ : Operand → Value) (ty elem : TypeId) (x lo : Operand) (t : TypeId) {b off n : Nat} (j m off' : Nat) {k : IntKind} (hu : P.underlying ty = some (.array n elem)) (hi : (P.info? elem).map (fun i => i.size) = some 1)
    (hx : ρ x = .pointer (some ⟨b, off, none⟩)) (hlo : ρ lo = .int k (j : Int)) (hj : j < n) (hm : m = n - j) (ho : off' = off + j) :
    (execOp ρ (mkOp (.slice ty x (some lo) none none) t)).run P w = .ok (.value (.slice (some ⟨b, off', none⟩) m m)) w := by
  subst hm ho
  have hrun := run_sliceFrom_arr (P := P) w ty elem n b off j k hu hi hj
  simp [execOp, mkOp, hx, hlo, hrun, Result.andThen]
theorem Bs.of_part2 {w : World} {b m off n : Nat} {t : TypeId} {f : Nat → Value} (h : w.rowIs b t m f) (l : List UInt8) (hn : l.length = n) (hm : off + n ≤ m) (hcm : n ≤ maxLen)
    (hf : ∀ i (hi : i < l.length), f (off + i) = .int .u8 ((l[i]).toNat : Int)) : Bs w (.slice (some ⟨b, off, none⟩) n n) l := by
  subst hn
  refine ⟨_, _, rfl, Nat.le_refl _, hcm, (fun h => by cases h), fun x hx i hi => ?_⟩
  cases hx
  refine ⟨h.lt, ?_⟩
  have h2 := h.cell (i := off + i) (by omega)
  rw [hf i hi] at h2
  rw [add_eq]
  exact h2
/-- A number's 32 bytes, the greatest first. -/
def beL (V : Nat) : List UInt8 := (litB V 32).reverse
theorem beL_length (V : Nat) : (beL V).length = 32 := by unfold beL; rw [List.length_reverse, litB_length]
theorem beL_at (V i : Nat) (h : i < (beL V).length) : ((beL V)[i]).toNat = byteN V (31 - i) := by
  unfold beL at *
  rw [List.getElem_reverse, litB_at, UInt8.toNat_ofNat']
  have h2 : (litB V 32).length = 32 := litB_length _ _
  unfold byteN
  rw [show (litB V 32).length - 1 - i = 31 - i by omega]
theorem beL_getD (V i : Nat) (h : i < 32) : ((beL V).getD i 0).toNat = byteN V (31 - i) := by
  rw [getD_at _ i (by rw [beL_length]; exact h)]
  exact beL_at V i _
set_option maxHeartbeats 4000000 in
theorem refMod_any (v : Value) (l : List UInt8) (w : World) (hv : Bs w v l) (hl : l.length ≤ 1000) :
    Calls Tryz.prog 83 #[v] w fun e w' => e = .returned (.agg (arrOf 32 (bF 32 (expB l l.length % ordL)))) ∧ Below w.heap.size w w' := by
  obtain ⟨a, n, cap, rfl, hn, hc1, hc2, hB0⟩ := hv.shape
  have HV := Lib.hid hB0
  have HN := Lib.hid hn
  have hnl : n ≤ 1000 := by omega
  have hr2 := ((rowIs_arr w 32 (fun _ => .int .u8 0) 67).alloc (.cells (arrOf 33 fun _ => .int .u8 0) 143))
  have hr3 := rowIs_arr (w.alloc (.cells (arrOf 32 fun _ => .int .u8 0) 67)) 33 (fun _ => .int .u8 0) 143
  have hb0 := ((Below.refl w.heap.size w).alloc (Nat.le_refl _) (.cells (arrOf 32 fun _ => .int .u8 0) 67)).alloc (by simp) (.cells (arrOf 33 fun _ => .int .u8 0) 143)
  rw [World.size_alloc] at hr3
  clear hv hB0
  go_enter Tryz.func83, Tryz.ntmps83
  go_wp2_with (first
    | refine wpList_alloc_arr rfl 67 rfl (arrOf 32 fun _ => .int .u8 0) zeroSc ?_
    | refine wpList_alloc_arr rfl 143 rfl (arrOf 33 fun _ => .int .u8 0) zeroB33 ?_
    | (go_at_call 118; refine (refOrder_any _).mono ?_; rintro e w1 ⟨rfl, hl1, hb1⟩
       have h2 := hr2.of_block (hb1.block _ hr2.lt)
       have h3 := hr3.of_block (hb1.block _ hr3.lt)
       have hB := hb0.trans (hb1.mono hb0.size)
       clear hr2 hr3 hb0 hb1))
  rw [World.size_alloc, World.size_alloc] at hl1
  generalize hg0 : w.heap.size = g2 at *
  generalize hgl : g2 + 1 + 1 = gl at *
  generalize hg3 : g2 + 1 = g3 at *
  have n23 : g2 ≠ g3 := by omega
  have n2l : g2 ≠ gl := by omega
  have n3l : gl ≠ g3 := by omega
  have l3 : g2 ≤ g3 := by omega
  have HG := Lib.hid hg0
  have HGS : Hid (∀ wq : World, Below g2 w wq → g2 ≤ wq.heap.size) := Lib.hid fun wq h => by rw [← HG.out]; exact h.size
  clear hg0 hgl hg3 hn
  have h3' : w1.rowIs g3 143 33 (bF 33 (expB l 0 % ordL)) := h3.congr fun i _ => by
    rw [show expB l 0 % ordL = 0 from Nat.zero_mod _, bF_zero]
  clear h3
  go_loopw [5] (fun ii wr => ∃ i : Nat, i ≤ n ∧ ii = .int .i64 (i : Int) ∧ wr.rowIs g3 143 33 (bF 33 (expB l i % ordL)) ∧ wr.rowIs g2 67 32 (fun _ => .int .u8 0) ∧ wr.rowIs gl 5 32 (bF 32 ordL) ∧ Below g2 w wr) (fun ii _ => n - (intOf ii).toNat)
  case atStart => exact ⟨0, Nat.zero_le _, rfl, h3', h2, hl1, hB⟩
  case round =>
    clear h3' h2 hl1 hB
    obtain ⟨i, hi, rfl, h3, h2, hL, hB⟩ := hrel
    by_cases hlt : i < n
    · have hiI : 0 ≤ (i : Int) ∧ (i : Int) < (n : Int) := by omega
      go_wp2
      go_loopw [6] (fun kk wq => ∃ m : Nat, m ≤ 8 ∧ kk = .int .i64 ((m : Int) - 1) ∧ wq.rowIs g3 143 33 (bF 33 ((expB l i * 2 ^ (8 - m) + (l.getD i 0).toNat / 2 ^ m) % ordL)) ∧ wq.rowIs g2 67 32 (fun _ => .int .u8 0) ∧ wq.rowIs gl 5 32 (bF 32 ordL) ∧ Below g2 w wq) (fun kk _ => ((intOf kk) + 1).toNat)
      case atStart => exact ⟨8, Nat.le_refl _, rfl, by rw [expB_start]; exact h3, h2, hL, hB⟩
      case round =>
        clear h3 h2 hL hB
        obtain ⟨m, hm, rfl, h3, h2, hL, hB⟩ := hrel
        cases m with
        | zero =>
          rw [expB_end] at h3
          go_wp2
          go_roundw
          case rel => exact ⟨i + 1, by omega, by go_num, h3, h2, hL, hB⟩
          case measure => (simp [intOf]; try omega)
        | succ k =>
          have hk : k < 8 := by omega
          rw [show ((k + 1 : Nat) : Int) - 1 = (k : Int) by omega]
          have hk0 : 0 ≤ (k : Int) := by omega
          obtain ⟨b, off, cap', he, _, _, hbl, hc⟩ := HV.out.open_n HN.out (by omega)
          cases he
          have hiE : i < l.length := by rw [HN.out]; exact hlt
          have hci := hc i hiE
          rw [← getD_at l i hiE] at hci
          have hci2 := (hB.cell (p := ⟨b, off + i, none⟩) (by rw [← HG.out]; exact hbl)).trans hci
          obtain ⟨x, hx⟩ := nat_var ((l.getD i 0).toNat)
          have hx1 : x < 256 := by rw [hx]; exact UInt8.toNat_lt _
          rw [← hx] at hci2 h3
          have hstep := expB_step (expB l i) x k hk
          obtain ⟨T, hT⟩ := nat_var (expB l i * 2 ^ (8 - (k + 1)) + x / 2 ^ (k + 1))
          rw [← hT] at h3 hstep
          obtain ⟨y, hy⟩ := nat_var (x / 2 ^ k)
          have hyl : y < 256 := by rw [hy]; exact Nat.lt_of_le_of_lt (Nat.div_le_self _ _) hx1
          rw [← hy] at hstep
          obtain ⟨c0, hc0⟩ := nat_var (y % 2)
          have hc1 : c0 ≤ 1 := by omega
          rw [← hc0] at hstep
          have hdm := double_mod T c0
          obtain ⟨R, hR⟩ := nat_var (T % ordL)
          have hRL : R < ordL := by rw [hR]; exact Nat.mod_lt _ ordL_pos
          rw [← hR] at h3 hdm
          obtain ⟨D, hD⟩ := nat_var (2 * R + c0)
          have hDL : D < 2 * ordL := by rw [hD]; exact double_lt hRL hc1
          rw [← hD] at hdm
          have HST : Hid ((expB l i * 2 ^ (8 - k) + (l.getD i 0).toNat / 2 ^ k) % ordL = D % ordL) := Lib.hid (by rw [hdm, ← hstep, hy, hx])
          have HD := Lib.hid hD
          have HDL := Lib.hid hDL
          have HC1 := Lib.hid hc1
          have HC0 := Lib.hid hc0
          have HY := Lib.hid hy
          have HYL := Lib.hid hyl
          have HXL := Lib.hid hx1
          have HK := Lib.hid hk
          have hwk : IntKind.i64.wrap ((k : Int) - 1) = (k : Int) - 1 := IntWalk.i64_in _ (by omega)
          clear hc hci hx hT hstep hy hyl hc0 hc1 hdm hR hRL hD hDL hx1 hiE
          go_wp2_with (first
            | refine wpList_shr8 rfl (.tmp 29) (.tmp 30) rfl rfl rfl HY.out HK.out HXL.out ?_
            | refine wpList_and1 rfl (.tmp 31) (.const (.int .u8 1)) rfl rfl rfl HC0.out HYL.out ?_)
          have h3' := h3.congr (g := fun i => if 32 - i < 0 then bF 33 D i else bF 33 R i) fun i _ => by rw [if_neg (Nat.not_lt_zero _)]
          go_loopw [7, 8] (fun cc jj wz => ∃ p c : Nat, p ≤ 33 ∧ Hid (c = cyD R c0 p) ∧ cc = .int .u8 (c : Int) ∧ jj = .int .i64 (32 - (p : Int)) ∧ wz.rowIs g3 143 33 (fun i => if 32 - i < p then bF 33 D i else bF 33 R i) ∧ wz.rowIs g2 67 32 (fun _ => .int .u8 0) ∧ wz.rowIs gl 5 32 (bF 32 ordL) ∧ Below g2 w wz) (fun _ jj _ => ((intOf jj) + 1).toNat)
          case atStart => exact ⟨0, c0, Nat.zero_le _, Lib.hid (cyD_zero R c0).symm, rfl, rfl, h3', h2, hL, hB⟩
          case round =>
            clear h3' h3 h2 hL hB hci2
            obtain ⟨p, c, hp, HC, rfl, rfl, h3, h2, hL, hB⟩ := hrel
            by_cases hp33 : p < 33
            · obtain ⟨j, hj⟩ := nat_var (32 - p)
              rw [show 32 - (p : Int) = (j : Int) by omega]
              have HJ := Lib.hid hj
              have hjI : 0 ≤ (j : Int) ∧ (j : Int) < 33 := by omega
              have hcell := h3.cell (i := j) (by omega)
              rw [if_neg (by omega)] at hcell
              unfold bF at hcell
              rw [show 33 - 1 - j = p by omega] at hcell
              have hfr := h3.frozen j
              have hcy := cyD_step R c0 p
              have hcl := cyD_le R c0 p HC1.out
              rw [← HC.out, ← HD.out] at hcy
              rw [← HC.out] at hcl
              obtain ⟨t, ht⟩ := nat_var (byteN R p)
              have htl : t < 256 := by rw [ht]; exact byteN_lt R p
              rw [← ht] at hcell hcy
              obtain ⟨q, hq⟩ := nat_var (t / 128)
              obtain ⟨s, hs⟩ := nat_var (2 * t % 256)
              obtain ⟨z, hz⟩ := nat_var (s + c)
              have hq2 : q = cyD R c0 (p + 1) := by rw [← hcy.2]; omega
              have hz2 : z = byteN D p := by rw [← hcy.1]; omega
              have hset : (wr.setCell ⟨g3, j, none⟩ (.int .u8 (z : Int))).rowIs g3 143 33 (fun i => if 32 - i < p + 1 then bF 33 D i else bF 33 R i) := (h3.set j _).congr fun i hi => by
                show (if i = j then _ else _) = _
                by_cases e : i = j
                · subst e
                  rw [if_pos rfl, if_pos (by omega)]
                  unfold bF
                  rw [show 33 - 1 - i = p by omega, ← hz2]
                · rw [if_neg e]
                  by_cases e2 : 32 - i < p
                  · rw [if_pos e2, if_pos (by omega)]
                  · rw [if_neg e2, if_neg (by omega)]
              have h2' := gb_rowIs h2 (grownBy_set _ g3 j (.int .u8 (z : Int))) n23
              have hL' := gb_rowIs hL (grownBy_set _ g3 j (.int .u8 (z : Int))) n3l
              have hB' := hB.setCell (p := ⟨g3, j, none⟩) l3 (.int .u8 (z : Int))
              have HQ := Lib.hid hq
              have HS := Lib.hid hs
              have HZ := Lib.hid hz
              have HTL := Lib.hid htl
              have HSL : Hid (s < 256) := Lib.hid (by omega)
              have HS2 : Hid (s % 2 = 0) := Lib.hid (by omega)
              have HCL := Lib.hid hcl
              have HQ2 := Lib.hid hq2
              have hwj : IntKind.i64.wrap ((j : Int) - 1) = (j : Int) - 1 := IntWalk.i64_in _ (by omega)
              clear hj hcy hcl ht htl hq hs hz hq2 hz2 h3 h2 hL hB
              go_wp2_with (first
                | refine wpList_shr7 rfl (.tmp 39) (.const (.int .u64 7)) rfl rfl rfl HQ.out HTL.out ?_
                | refine wpList_shl1 rfl (.tmp 44) (.const (.int .u64 1)) rfl rfl rfl HS.out ?_
                | refine wpList_or1 rfl (.tmp 45) (.tmp 46) rfl rfl rfl HSL.out HS2.out HCL.out HZ.out ?_)
              go_roundw
              case rel => exact ⟨p + 1, q, by omega, HQ2, rfl, by have := HJ.out; go_num, hset, h2', hL', hB'⟩
              case measure => (simp [intOf]; try omega)
            · obtain rfl : p = 33 := by omega
              have hD3 := h3.congr (g := bF 33 D) fun i hi => by rw [if_pos (by omega)]
              clear h3
              have hwk2 := hwk
              by_cases hge : ordL ≤ D
              · have HAB : Hid (∀ w, Calls Tryz.prog 119 #[.agg (arrOf 33 (bF 33 D))] w fun e w' => e = .returned (.bool true) ∧ Below w.heap.size w w') := Lib.hid fun w => by
                  have h := refAbove_any D w (Nat.lt_trans HDL.out two_L_lt)
                  rwa [decide_eq_true hge] at h
                obtain ⟨G, hG⟩ := nat_var (D - ordL)
                have HDG : Hid (D = G + ordL) := Lib.hid (by omega)
                have HGM : Hid (G = D % ordL) := Lib.hid (by rw [hG]; exact sub_mod_L hge HDL.out)
                clear hge hG HD
                go_wp2_with (first
                  | (refine wpList_load_arr rfl 143 (.tmp 3) rfl 33 arrB33 hD3 rfl (by omega) ?_; simp only [Nat.zero_add])
                  | (go_at_call 119; refine (HAB.out _).mono ?_; rintro e wA ⟨rfl, hbA⟩
                     have k3 := hD3.of_block (hbA.block _ hD3.lt)
                     have k2 := h2.of_block (hbA.block _ h2.lt)
                     have kL := hL.of_block (hbA.block _ hL.lt)
                     have kB := hB.trans (hbA.mono (HGS.out _ hB))
                     clear hD3 h2 hL hB hbA))
                have k3' := k3.congr (g := fun i => if 32 - i < 0 then bF 33 G i else bF 33 D i) fun i _ => by rw [if_neg (Nat.not_lt_zero _)]
                go_loopw [10, 11] (fun bb jj wz => ∃ p c : Nat, p ≤ 33 ∧ Hid (c = cyA G ordL p) ∧ bb = .int .i64 (c : Int) ∧ jj = .int .i64 (32 - (p : Int)) ∧ wz.rowIs g3 143 33 (fun i => if 32 - i < p then bF 33 G i else bF 33 D i) ∧ wz.rowIs g2 67 32 (fun _ => .int .u8 0) ∧ wz.rowIs gl 5 32 (bF 32 ordL) ∧ Below g2 w wz) (fun _ jj _ => ((intOf jj) + 1).toNat)
                case atStart => exact ⟨0, 0, Nat.zero_le _, Lib.hid (cyA_zero G ordL).symm, rfl, rfl, k3', k2, kL, kB⟩
                case round =>
                  clear k3' k3 k2 kL kB hp33 hp
                  obtain ⟨p, c, hp, HC, rfl, rfl, h3, h2, hL, hB⟩ := hrel
                  by_cases hp33 : p < 33
                  · obtain ⟨j, hj⟩ := nat_var (32 - p)
                    rw [show 32 - (p : Int) = (j : Int) by omega]
                    have HJ := Lib.hid hj
                    have hjI : 0 ≤ (j : Int) ∧ (j : Int) < 33 := by omega
                    have hcell := h3.cell (i := j) (by omega)
                    rw [if_neg (by omega)] at hcell
                    unfold bF at hcell
                    rw [show 33 - 1 - j = p by omega] at hcell
                    have hfr := h3.frozen j
                    have hcs := cyA_step G ordL p
                    have hcle := cyA_le G ordL p
                    have hn2 := cyA_le G ordL (p + 1)
                    rw [← HDG.out, ← HC.out] at hcs
                    rw [← HC.out] at hcle
                    obtain ⟨d, hd⟩ := nat_var (byteN D p)
                    have hdl : d < 256 := by rw [hd]; exact byteN_lt D p
                    rw [← hd] at hcell hcs
                    obtain ⟨g, hg⟩ := nat_var (byteN G p)
                    have hgl : g < 256 := by rw [hg]; exact byteN_lt G p
                    rw [← hg] at hcs
                    obtain ⟨xl, hxl⟩ := nat_var (byteN ordL p)
                    have hxll : xl < 256 := by rw [hxl]; exact byteN_lt ordL p
                    rw [← hxl] at hcs
                    have hset : (wr.setCell ⟨g3, j, none⟩ (.int .u8 (g : Int))).rowIs g3 143 33 (fun i => if 32 - i < p + 1 then bF 33 G i else bF 33 D i) := (h3.set j _).congr fun i hi => by
                      show (if i = j then _ else _) = _
                      by_cases e : i = j
                      · subst e
                        rw [if_pos rfl, if_pos (by omega)]
                        unfold bF
                        rw [show 33 - 1 - i = p by omega, ← hg]
                      · rw [if_neg e]
                        by_cases e2 : 32 - i < p
                        · rw [if_pos e2, if_pos (by omega)]
                        · rw [if_neg e2, if_neg (by omega)]
                    have h2' := gb_rowIs h2 (grownBy_set _ g3 j (.int .u8 (g : Int))) n23
                    have hL' := gb_rowIs hL (grownBy_set _ g3 j (.int .u8 (g : Int))) n3l
                    have hB' := hB.setCell (p := ⟨g3, j, none⟩) l3 (.int .u8 (g : Int))
                    have hwd : IntKind.i64.wrap (d : Int) = (d : Int) := IntWalk.i64_in _ (by omega)
                    have hwg : IntKind.u8.wrap (g : Int) = (g : Int) := IntWalk.u8_in _ ⟨by omega, by omega⟩
                    have hwj : IntKind.i64.wrap ((j : Int) - 1) = (j : Int) - 1 := IntWalk.i64_in _ (by omega)
                    by_cases hbr : cyA G ordL (p + 1) = 0
                    · have HA : Hid (0 = cyA G ordL (p + 1)) := Lib.hid hbr.symm
                      rw [hbr] at hcs hn2
                      clear hbr h3
                      by_cases hp32 : p < 32
                      · clear hwj
                        have hcl := hL.cell (i := j - 1) (by omega)
                        unfold bF at hcl
                        rw [show 32 - 1 - (j - 1) = p by omega, ← hxl] at hcl
                        obtain ⟨j1, hj1⟩ := nat_var (j - 1)
                        rw [← hj1] at hcl
                        have HJ1 := Lib.hid hj1
                        have hwj1 : IntKind.i64.wrap ((j : Int) - 1) = (j1 : Int) := by rw [IntWalk.i64_in _ (by omega)]; omega
                        have hj1I : 0 ≤ (j1 : Int) ∧ (j1 : Int) < 32 := by omega
                        have hjp : 0 < (j : Int) := by omega
                        have hwx : IntKind.i64.wrap (xl : Int) = (xl : Int) := IntWalk.i64_in _ (by omega)
                        obtain ⟨u1, hu1⟩ : ∃ u1 : Int, u1 = (d : Int) - (xl : Int) := ⟨_, rfl⟩
                        have hv1 : IntKind.i64.wrap ((d : Int) - (xl : Int)) = u1 := by rw [← hu1]; exact IntWalk.i64_in _ (by omega)
                        have hv2 : IntKind.i64.wrap (u1 - (c : Int)) = (g : Int) := by rw [IntWalk.i64_in _ (by omega)]; omega
                        have hneg : ¬ (g : Int) < 0 := by omega
                        clear hd hg hxl hcs hj hdl hgl hxll hcle hn2 hj1 hu1
                        go_wp2
                        go_roundw
                        case rel => exact ⟨p + 1, 0, by omega, HA, rfl, by have := HJ.out; have := HJ1.out; go_num, hset, h2', hL', hB'⟩
                        case measure => (have := HJ.out; have := HJ1.out; simp [intOf]; try omega)
                      · skip
                        have hjp : ¬ 0 < (j : Int) := by omega
                        have hxz : xl = 0 := by rw [hxl, show p = 32 by omega]; decide +kernel
                        have hv2 : IntKind.i64.wrap ((d : Int) - (c : Int)) = (g : Int) := by rw [IntWalk.i64_in _ (by omega)]; omega
                        have hneg : ¬ (g : Int) < 0 := by omega
                        clear hd hg hxl hcs hj hdl hgl hxll hcle hn2 hxz
                        go_wp2
                        go_roundw
                        case rel => exact ⟨p + 1, 0, by omega, HA, rfl, by have := HJ.out; go_num, hset, h2', hL', hB'⟩
                        case measure => (have := HJ.out; simp [intOf]; try omega)
                    · have hbr1 : cyA G ordL (p + 1) = 1 := by omega
                      have HA : Hid (1 = cyA G ordL (p + 1)) := Lib.hid hbr1.symm
                      rw [hbr1] at hcs hn2
                      clear hbr hbr1 h3
                      by_cases hp32 : p < 32
                      · clear hwj
                        have hcl := hL.cell (i := j - 1) (by omega)
                        unfold bF at hcl
                        rw [show 32 - 1 - (j - 1) = p by omega, ← hxl] at hcl
                        obtain ⟨j1, hj1⟩ := nat_var (j - 1)
                        rw [← hj1] at hcl
                        have HJ1 := Lib.hid hj1
                        have hwj1 : IntKind.i64.wrap ((j : Int) - 1) = (j1 : Int) := by rw [IntWalk.i64_in _ (by omega)]; omega
                        have hj1I : 0 ≤ (j1 : Int) ∧ (j1 : Int) < 32 := by omega
                        have hjp : 0 < (j : Int) := by omega
                        have hwx : IntKind.i64.wrap (xl : Int) = (xl : Int) := IntWalk.i64_in _ (by omega)
                        obtain ⟨u1, hu1⟩ : ∃ u1 : Int, u1 = (d : Int) - (xl : Int) := ⟨_, rfl⟩
                        have hv1 : IntKind.i64.wrap ((d : Int) - (xl : Int)) = u1 := by rw [← hu1]; exact IntWalk.i64_in _ (by omega)
                        have hv2 : IntKind.i64.wrap (u1 - (c : Int)) = (g : Int) - 256 := by rw [IntWalk.i64_in _ (by omega)]; omega
                        obtain ⟨u2, hu2⟩ : ∃ u2 : Int, u2 = (g : Int) - 256 := ⟨_, rfl⟩
                        have hneg : u2 < 0 := by omega
                        have hv3 : IntKind.i64.wrap (u2 + 256) = (g : Int) := by rw [IntWalk.i64_in _ (by omega)]; omega
                        rw [← hu2] at hv2
                        clear hd hg hxl hcs hj hdl hgl hxll hcle hn2 hj1 hu1 hu2
                        go_wp2
                        go_roundw
                        case rel => exact ⟨p + 1, 1, by omega, HA, rfl, by have := HJ.out; have := HJ1.out; go_num, hset, h2', hL', hB'⟩
                        case measure => (have := HJ.out; have := HJ1.out; simp [intOf]; try omega)
                      · skip
                        have hjp : ¬ 0 < (j : Int) := by omega
                        have hxz : xl = 0 := by rw [hxl, show p = 32 by omega]; decide +kernel
                        have hv2 : IntKind.i64.wrap ((d : Int) - (c : Int)) = (g : Int) - 256 := by rw [IntWalk.i64_in _ (by omega)]; omega
                        obtain ⟨u2, hu2⟩ : ∃ u2 : Int, u2 = (g : Int) - 256 := ⟨_, rfl⟩
                        have hneg : u2 < 0 := by omega
                        have hv3 : IntKind.i64.wrap (u2 + 256) = (g : Int) := by rw [IntWalk.i64_in _ (by omega)]; omega
                        rw [← hu2] at hv2
                        clear hd hg hxl hcs hj hdl hgl hxll hcle hn2 hxz hu2
                        go_wp2
                        go_roundw
                        case rel => exact ⟨p + 1, 1, by omega, HA, rfl, by have := HJ.out; go_num, hset, h2', hL', hB'⟩
                        case measure => (have := HJ.out; simp [intOf]; try omega)
                  · obtain rfl : p = 33 := by omega
                    have hG3 := h3.congr (g := bF 33 G) fun i hi => by rw [if_pos (by omega)]
                    clear h3
                    go_wp2
                    go_roundw
                    case rel => exact ⟨k, by omega, rfl, by rw [HST.out, ← HGM.out]; exact hG3, h2, hL, hB⟩
                    case measure => (simp [intOf]; try omega)
              · have HAB : Hid (∀ w, Calls Tryz.prog 119 #[.agg (arrOf 33 (bF 33 D))] w fun e w' => e = .returned (.bool false) ∧ Below w.heap.size w w') := Lib.hid fun w => by
                  have h := refAbove_any D w (Nat.lt_trans HDL.out two_L_lt)
                  rwa [decide_eq_false hge] at h
                have HDM : Hid (D % ordL = D) := Lib.hid (Nat.mod_eq_of_lt (by omega))
                clear hge HD
                go_wp2_with (first
                  | (refine wpList_load_arr rfl 143 (.tmp 3) rfl 33 arrB33 hD3 rfl (by omega) ?_; simp only [Nat.zero_add])
                  | (go_at_call 119; refine (HAB.out _).mono ?_; rintro e wA ⟨rfl, hbA⟩
                     have k3 := hD3.of_block (hbA.block _ hD3.lt)
                     have k2 := h2.of_block (hbA.block _ h2.lt)
                     have kL := hL.of_block (hbA.block _ hL.lt)
                     have kB := hB.trans (hbA.mono (HGS.out _ hB))
                     clear hD3 h2 hL hB hbA))
                go_roundw
                case rel => exact ⟨k, by omega, rfl, by rw [HST.out, HDM.out]; exact k3, k2, kL, kB⟩
                case measure => (simp [intOf]; try omega)
    · obtain rfl : i = n := by omega
      rw [← HN.out] at h3
      obtain ⟨R, hR⟩ := nat_var (expB l l.length % ordL)
      rw [← hR] at h3
      have HR := Lib.hid hR
      have r2 := h2.alloc (.cells (arrOf 32 fun _ => .int .u8 0) 67)
      have r3 := h3.alloc (.cells (arrOf 32 fun _ => .int .u8 0) 67)
      have rs := rowIs_arr wr 32 (fun _ => .int .u8 0) 67
      have kB := hB.alloc (HGS.out _ hB) (.cells (arrOf 32 fun _ => .int .u8 0) 67)
      have hlt2 := h2.lt
      have hlt3 := h3.lt
      have hge := HGS.out _ hB
      clear h3 h2 hL hB hR
      go_wp2_with (refine wpList_alloc_arr rfl 67 rfl (arrOf 32 fun _ => .int .u8 0) zeroSc ?_)
      generalize hwa : wr.alloc (.cells (arrOf 32 fun _ => .int .u8 0) 67) = wa at *
      generalize hgs : wr.heap.size = gs at *
      have n2s : g2 ≠ gs := by omega
      have n3s : g3 ≠ gs := by omega
      have ls : g2 ≤ gs := by omega
      clear hwa hgs hlt2 hlt3
      replace r2 := World.rowIs.drew r2
      replace r3 := World.rowIs.drew r3
      replace rs := World.rowIs.drew rs
      replace kB := kB.drew
      have hBs := Bs.of_part2 (off := 1) (n := 32) r3 (beL R) (beL_length R) (by omega) (by unfold maxLen; omega) fun i hi => by
        rw [beL_at]
        unfold bF
        rw [beL_length] at hi
        rw [show 33 - 1 - (1 + i) = 31 - i by omega]
      refine wp_region_lins [(0, some [2]), (1, some [2]), (2, none)] (fun _ _ => True) (by kernel_rfl) (by kernel_rfl) (by decide) (by kernel_rfl) (fun d _ _ _ _ h => by cases d <;> exact h) (fun _ _ => trivial) ?_
      refine lins_read 80 (Op.slice 67 (Operand.tmp 14) none none none) 22 (.slice (some ⟨gs, 0, none⟩) 32 32) rfl rfl rfl rfl rfl (fun w0 hw0 => by exact exec_sliceAll _ _ 5 _ _ (by kernel_rfl) (by kernel_rfl) rfl (by omega)) ?_
      simp only [Act.put, List.setIfInBounds_toArray, List.set_cons_zero, List.set_cons_succ, Nat.zero_add]
      refine lins_read 81 (Op.slice 143 (Operand.tmp 3) (some (.const (.int .i64 1))) none none) 22 (.slice (some ⟨g3, 1, none⟩) 32 32) rfl rfl rfl rfl rfl (fun w0 hw0 => by exact exec_sliceFromArr _ _ 5 _ _ _ 1 32 1 (n := 33) (by kernel_rfl) (by kernel_rfl) rfl rfl (by omega) rfl rfl) ?_
      simp only [Act.put, List.setIfInBounds_toArray, List.set_cons_zero, List.set_cons_succ, Nat.zero_add]
      refine lins_copy (some 82) (.tmp 80) (.tmp 81) _ rfl rfl rfl rfl rfl rs hBs rfl rfl (by omega) 32 (by rw [beL_length]; rfl) ?_
      intro wc hrc hgc hsc
      have rc : wc.rowIs gs 67 32 (bF 32 R) := hrc.congr fun i hi => by
        unfold putN bytesAt
        rw [if_pos (by omega), Nat.sub_zero, beL_getD R i hi]
        unfold bF
        rw [show 32 - 1 - i = 31 - i by omega]
      have rc2 := gb_rowIs r2 hgc n2s
      have rB := kB.grown hgc (HGS.out _ kB) (by intro k hk; cases hk; exact ls)
      refine ⟨fun _ _ => True, fun c hc => (by cases hc), ?_⟩
      clear hrc hgc hsc rs r2 r3 kB hBs
      simp only [Act.put, List.setIfInBounds_toArray, List.set_cons_zero, List.set_cons_succ, Nat.zero_add]
      refine lins_end ?_
      go_wp2_with (first
        | (refine wpList_load_arr rfl 67 (.tmp 14) rfl 32 arrSc rc rfl (by omega) ?_; simp only [Nat.zero_add])
        | (refine wpList_store_arr rfl 67 (.tmp 2) (.tmp 83) rfl 32 arrSc rc2 rfl rfl (by omega) (fun _ _ => rfl) ?_; intro wd hrd hgd hsd))
      refine ret_cell_arr rfl arrSc hrd rfl (by omega) rfl ⟨?_, by rw [HG.out]; exact rB.grown hgd (HGS.out _ rB) (by intro k hk; cases hk; exact Nat.le_refl _)⟩
      rw [← HR.out]
      refine congrArg (fun x => Ending.returned (.agg x)) (arrOf_congr fun i hi => ?_)
      unfold putN
      rw [if_pos (by omega), Nat.zero_add, Nat.sub_zero]
end Go.Proofs.YtonhpmaiagbheaaGreat

/- The document's numbers below L: Bytes, Wide, Bit. -/
namespace Go.Proofs.YtonhpmaiagbheaaGreat
open Go.RowKit Go.Deep
set_option linter.unusedSimpArgs false
set_option linter.unusedVariables false

theorem numL_congr {l m : List UInt8} : ∀ k, (∀ i, i < k → l.getD i 0 = m.getD i 0) → numL l k = numL m k
  | 0, _ => rfl
  | k + 1, h => by
    rw [numL, numL, numL_congr k (fun i hi => h i (by omega)), h k (by omega)]
theorem numL_cons (x : UInt8) (l : List UInt8) : ∀ k, numL (x :: l) (k + 1) = x.toNat + 256 * numL l k
  | 0 => by simp [numL]
  | k + 1 => by
    rw [numL, numL_cons x l k, numL]
    rw [show (x :: l).getD (k + 1) 0 = l.getD k 0 from rfl, Nat.pow_succ, Nat.mul_add]
    have : (l.getD k 0).toNat * (256 ^ k * 256) = 256 * ((l.getD k 0).toNat * 256 ^ k) := by ac_rfl
    omega
theorem expB_congr {l m : List UInt8} : ∀ k, (∀ i, i < k → l.getD i 0 = m.getD i 0) → expB l k = expB m k
  | 0, _ => rfl
  | k + 1, h => by
    rw [expB, expB, expB_congr k (fun i hi => h i (by omega)), h k (by omega)]
theorem expB_rev : ∀ (k : Nat) (M : List UInt8), M.length = k → expB M k = numL M.reverse k
  | 0, _, _ => rfl
  | k + 1, M, h => by
    have hne : M ≠ [] := by intro e; subst e; simp at h
    obtain ⟨N, x, rfl⟩ : ∃ N x, M = N ++ [x] := ⟨M.dropLast, M.getLast hne, (List.dropLast_concat_getLast hne).symm⟩
    have hN : N.length = k := by simpa using h
    rw [List.reverse_append, List.reverse_singleton, List.singleton_append, numL_cons, ← expB_rev k N hN, expB]
    rw [show (N ++ [x]).getD k 0 = x by rw [List.getD_eq_getElem?_getD, List.getElem?_append_right (by omega), hN]; simp]
    rw [expB_congr k (l := N ++ [x]) (m := N) fun i hi => by rw [List.getD_eq_getElem?_getD, List.getD_eq_getElem?_getD, List.getElem?_append_left (by omega)]]
    omega
/-- The first n bytes, a byte that is wanting is nothing. -/
def fillN (l : List UInt8) (n : Nat) : List UInt8 := (List.range n).map fun i => l.getD i 0
theorem fillN_length (l : List UInt8) (n : Nat) : (fillN l n).length = n := by simp [fillN]
theorem fillN_getD (l : List UInt8) (n i : Nat) (h : i < n) : (fillN l n).getD i 0 = l.getD i 0 := by
  unfold fillN
  rw [List.getD_eq_getElem?_getD, List.getElem?_map, List.getElem?_range h]
  rfl
theorem fillN_rev (l : List UInt8) (n : Nat) : expB (fillN l n).reverse n = numL l n := by
  rw [expB_rev n _ (by rw [List.length_reverse, fillN_length]), List.reverse_reverse]
  exact numL_congr n fun i hi => fillN_getD l n i hi
theorem beL_rev (V : Nat) : (beL V).reverse = litB V 32 := by unfold beL; rw [List.reverse_reverse]
theorem undSc : Tryz.prog.underlying 67 = some (.array 32 5) := by kernel_rfl
theorem infoU8 : (Tryz.prog.info? 5).map (fun i => i.size) = some 1 := by kernel_rfl
set_option maxHeartbeats 1000000 in
theorem refScBytes_any (V : Nat) (w : World) : Calls Tryz.prog 38 #[.agg (arrOf 32 (bF 32 V))] w fun e w' => ∃ v, e = .returned v ∧ Owns w' w.heap.size v (litB V 32) ∧ Below w.heap.size w w' := by
  have hr := rowIs_arr w 32 (bF 32 V) 67
  have hb0 := (Below.refl w.heap.size w).alloc (Nat.le_refl _) (.cells (arrOf 32 (bF 32 V)) 67)
  have hBs := Bs.of_part2 (off := 0) (n := 32) hr (beL V) (beL_length V) (by omega) (by unfold maxLen; omega) fun i hi => by
    rw [beL_at]
    unfold bF
    rw [Nat.zero_add]
  have HT := Lib.hid (refTurned_any _ (beL V) _ hBs (by rw [beL_length]; omega))
  rw [beL_rev] at HT
  have HB0 := Lib.hid hb0
  clear hr hBs hb0
  go_enter Tryz.func38, Tryz.ntmps38
  go_wp2_with (first
    | refine wpList_op rfl (.slice 67 (.tmp 1) none none none) 22 (.slice (some ⟨w.heap.size, 0, none⟩) 32 32) rfl rfl (exec_sliceAll _ _ _ _ _ undSc infoU8 rfl (by omega)) ?_
    | (go_at_call 84; refine HT.out.mono ?_; rintro e w1 ⟨v1, rfl, hO, hb⟩))
  go_ret
  exact ⟨_, rfl, hO.lower (by simp), HB0.out.trans (hb.mono (by simp))⟩
set_option maxHeartbeats 1000000 in
theorem refWide_any (v : Value) (l : List UInt8) (w : World) (hv : Bs w v l) : Calls Tryz.prog 32 #[v] w fun e w' => e = .returned (.agg (arrOf 32 (bF 32 (numL l 64 % ordL)))) ∧ Below w.heap.size w w' := by
  have hr := rowIs_arr w 32 (fun _ => .int .u8 0) 67
  have hb0 := (Below.refl w.heap.size w).alloc (Nat.le_refl _) (.cells (arrOf 32 fun _ => .int .u8 0) 67)
  have HF := Lib.hid (refFillRow_any v l 64 _ (hv.below hb0 (Nat.le_refl _)) (by omega) (by omega))
  have hlen : (fillN l 64).reverse.length = 64 := by rw [List.length_reverse, fillN_length]
  have HM := Lib.hid fun v w (h : Bs w v (fillN l 64).reverse) => refMod_any v (fillN l 64).reverse w h (by rw [hlen]; omega)
  rw [hlen, fillN_rev] at HM
  obtain ⟨V, hV⟩ := nat_var (numL l 64 % ordL)
  rw [← hV] at HM ⊢
  clear hV
  have HGS : Hid (∀ wq : World, Below w.heap.size w wq → w.heap.size ≤ wq.heap.size) := Lib.hid fun wq h => h.size
  have HFL := Lib.hid (fillN_length l 64)
  have HFG := Lib.hid fun i (h : i < 64) => fillN_getD l 64 i h
  obtain ⟨L64, hL64⟩ : ∃ L, L = fillN l 64 := ⟨_, rfl⟩
  rw [← hL64] at HM HFL HFG
  clear hv hlen hL64
  go_enter Tryz.func32, Tryz.ntmps32
  go_wp2_with (first
    | refine wpList_alloc_arr rfl 67 rfl (arrOf 32 fun _ => .int .u8 0) zeroSc ?_
    | (go_at_call 85; refine HF.out.mono ?_; rintro e w1 ⟨rfl, hr1, hb1⟩; rw [World.size_alloc] at hr1
       have k1 := hr.of_block (hb1.block _ hr.lt)
       have B1 := hb0.trans (hb1.mono hb0.size)
       have hBs := Bs.of_part2 (off := 0) (n := 64) hr1 L64 HFL.out (by omega) (by unfold maxLen; omega) fun i hi => by
         rw [← getD_at _ i hi, HFG.out i (by rwa [HFL.out] at hi), Nat.zero_add]
         rfl
       clear hr hb0 hr1 hb1)
    | (go_at_call 84; refine (refTurned_any _ L64 _ hBs (by rw [HFL.out]; omega)).mono ?_; rintro e w2 ⟨v2, rfl, hO, hb2⟩
       have k2 := k1.of_block (hb2.block _ k1.lt)
       have B2 := B1.trans (hb2.mono (HGS.out _ B1))
       have hB2 := hO.bs
       clear k1 B1 hO hb2 hBs)
    | (go_at_call 83; refine (HM.out _ _ hB2).mono ?_; rintro e w3 ⟨rfl, hb3⟩
       have k3 := k2.of_block (hb3.block _ k2.lt)
       have B3 := B2.trans (hb3.mono (HGS.out _ B2))
       clear k2 B2 hB2 hb3)
    | (refine wpList_store_arr rfl 67 (.tmp 2) (.tmp 6) rfl 32 arrSc k3 rfl rfl (by omega) (fun _ _ => rfl) ?_; intro w4 hr4 hg4 hs4))
  refine ret_cell_arr rfl arrSc hr4 rfl (by omega) rfl ⟨?_, B3.grown hg4 (HGS.out _ B3) (by intro k hk; cases hk; exact Nat.le_refl _)⟩
  refine congrArg (fun x => Ending.returned (.agg x)) (arrOf_congr fun i hi => ?_)
  unfold putN
  rw [if_pos (by omega), Nat.zero_add, Nat.sub_zero]
end Go.Proofs.YtonhpmaiagbheaaGreat

/- The document's numbers below L: Add. -/
namespace Go.Proofs.YtonhpmaiagbheaaGreat
open Go.RowKit Go.Deep
set_option linter.unusedSimpArgs false
set_option linter.unusedVariables false

theorem wpList_shrI8 {ops : Array Oper} {Q : Exit → Act → World → Prop} {a : Act} {w : World} {rest : List Oper} {o : Oper} {ty : TypeId} (hgd : o.guard = none) (x y : Operand) (ho : o.op = .binOp .shr 3 x y ty) {t q : Nat}
    (hx : a.eval x = .int .i64 (t : Int)) (hy : a.eval y = .int .u64 8) (hq : q = t / 256) (ht : t < 1000000000) (h : wpList Tryz.prog ops Q rest (a.put o.dst (.int .i64 (q : Int))) w) : wpList Tryz.prog ops Q (o :: rest) a w := by
  refine wpList_value hgd (.int .i64 (q : Int)) ?_ h
  have h1 : (t : Int) / 2 ^ 8 = (q : Int) := by omega
  have h2 : (t : Int) / 256 = (q : Int) := by omega
  have h3 : IntKind.i64.wrap (q : Int) = (q : Int) := IntWalk.i64_in _ (by omega)
  clear hq h
  rw [exec_mkOp, ho]
  simp only [execOp, mkOp, hx, hy]
  go_simp
/-- A number's n bytes, the greatest first. -/
def beN (V n : Nat) : List UInt8 := (litB V n).reverse
theorem beN_length (V n : Nat) : (beN V n).length = n := by unfold beN; rw [List.length_reverse, litB_length]
theorem beN_at (V n i : Nat) (h : i < (beN V n).length) : ((beN V n)[i]).toNat = byteN V (n - 1 - i) := by
  unfold beN at *
  rw [List.getElem_reverse, litB_at, UInt8.toNat_ofNat']
  have h2 : (litB V n).length = n := litB_length _ _
  unfold byteN
  rw [show (litB V n).length - 1 - i = n - 1 - i by omega]
theorem beN_exp (V n : Nat) : expB (beN V n) n = V % 256 ^ n := by
  rw [expB_rev n _ (beN_length V n)]
  unfold beN
  rw [List.reverse_reverse, numL_litB V n n (Nat.le_refl _)]
theorem run_make33 (w : World) : (Instr.makeSlice 22 (.int .i64 33) (.int .i64 33)).run Tryz.prog w = .ok (.slice (some ⟨w.heap.size, 0, none⟩) 33 33) (w.alloc (.cells (madeCells #[.int .u8 0] 33) 5)) := by kernel_rfl
theorem bF_bs {w : World} {b n V : Nat} {t : TypeId} (h : w.rowIs b t n (bF n V)) (hn : n ≤ 1000) : Bs w (.slice (some ⟨b, 0, none⟩) n n) (beN V n) :=
  Bs.of_part2 (off := 0) h (beN V n) (beN_length V n) (by omega) (by unfold maxLen; omega) fun i hi => by
    rw [beN_at]
    unfold bF
    rw [Nat.zero_add]
set_option maxHeartbeats 2000000 in
theorem refScAdd_any (A B : Nat) (w : World) (hA : A < ordL) (hB : B < ordL) : Calls Tryz.prog 36 #[.agg (arrOf 32 (bF 32 A)), .agg (arrOf 32 (bF 32 B))] w fun e w' => e = .returned (.agg (arrOf 32 (bF 32 ((A + B) % ordL)))) ∧ Below w.heap.size w w' := by
  obtain ⟨w4, hw4⟩ : ∃ w4, w4 = (((w.alloc (.cells (arrOf 32 (bF 32 A)) 67)).alloc (.cells (arrOf 32 (bF 32 B)) 67)).alloc (.cells (arrOf 32 fun _ => .int .u8 0) 67)).alloc (.cells (madeCells #[.int .u8 0] 33) 5) := ⟨_, rfl⟩
  have hrA : w4.rowIs w.heap.size 67 32 (bF 32 A) := by rw [hw4]; exact (((rowIs_arr w 32 (bF 32 A) _).alloc _).alloc _).alloc _
  have hrB : w4.rowIs (w.heap.size + 1) 67 32 (bF 32 B) := by
    rw [hw4]
    have h := rowIs_arr (w.alloc (.cells (arrOf 32 (bF 32 A)) 67)) 32 (bF 32 B) 67
    rw [World.size_alloc] at h
    exact (h.alloc _).alloc _
  have hrR : w4.rowIs (w.heap.size + 1 + 1) 67 32 (fun _ => .int .u8 0) := by
    rw [hw4]
    have h := rowIs_arr ((w.alloc (.cells (arrOf 32 (bF 32 A)) 67)).alloc (.cells (arrOf 32 (bF 32 B)) 67)) 32 (fun _ => .int .u8 0) 67
    rw [World.size_alloc, World.size_alloc] at h
    exact h.alloc _
  have hrC : w4.rowIs (w.heap.size + 1 + 1 + 1) 5 33 (fun _ => .int .u8 0) := by
    rw [hw4]
    have h := World.rowIs_made (((w.alloc (.cells (arrOf 32 (bF 32 A)) 67)).alloc (.cells (arrOf 32 (bF 32 B)) 67)).alloc (.cells (arrOf 32 fun _ => .int .u8 0) 67)) (.int .u8 0) 33 5
    rwa [World.size_alloc, World.size_alloc, World.size_alloc] at h
  have hbel : Below w.heap.size w w4 := by
    rw [hw4]
    exact ((((Below.refl _ _).alloc (Nat.le_refl _) _).alloc (by simp) _).alloc (by simp; omega) _).alloc (by simp; omega) _
  have hmk := run_make33
  have hs33 : A + B < 256 ^ 33 := Nat.lt_trans (show A + B < 2 * ordL by omega) two_L_lt
  have h32 : byteN (A + B) 32 = cyA A B 32 := by
    have h1 : A < 256 ^ 32 := Nat.lt_trans hA ordL_lt
    have h2 : B < 256 ^ 32 := Nat.lt_trans hB ordL_lt
    unfold byteN cyA
    rw [Nat.mod_eq_of_lt h1, Nat.mod_eq_of_lt h2]
    refine Nat.mod_eq_of_lt (Nat.lt_of_lt_of_le ?_ (show 2 ≤ 256 by decide))
    rw [Nat.div_lt_iff_lt_mul (pow256_pos 32)]
    omega
  have H32 := Lib.hid h32
  have HM := Lib.hid fun v w (h : Bs w v (beN (A + B) 33)) => refMod_any v (beN (A + B) 33) w h (by rw [beN_length]; omega)
  rw [beN_length, beN_exp, Nat.mod_eq_of_lt hs33] at HM
  clear hA hB hs33 h32
  go_enter Tryz.func36, Tryz.ntmps36
  go_wp2_with (refine wpList_alloc_arr rfl 67 rfl (arrOf 32 fun _ => .int .u8 0) zeroSc ?_)
  rw [← hw4]
  clear hw4 hmk
  generalize hg0 : w.heap.size = g0 at *
  generalize hg1 : g0 + 1 = g1 at *
  generalize hg2 : g1 + 1 = g2 at *
  generalize hg3 : g2 + 1 = g3 at *
  have n03 : g0 ≠ g3 := by omega
  have n13 : g1 ≠ g3 := by omega
  have n23 : g2 ≠ g3 := by omega
  have l2 : g0 ≤ g2 := by omega
  have l3 : g0 ≤ g3 := by omega
  have HG := Lib.hid hg0
  have HGS : Hid (∀ wq : World, Below g0 w wq → g0 ≤ wq.heap.size) := Lib.hid fun wq h => by rw [← HG.out]; exact h.size
  clear hg0 hg1 hg2 hg3
  have hrC' := hrC.congr (g := fun i => if 32 - i < 0 then bF 33 (A + B) i else .int .u8 0) fun i _ => by rw [if_neg (Nat.not_lt_zero _)]
  clear hrC
  go_loopw [6, 7] (fun cc jj wr => ∃ p c : Nat, p ≤ 32 ∧ Hid (c = cyA A B p) ∧ cc = .int .i64 (c : Int) ∧ jj = .int .i64 (31 - (p : Int)) ∧ wr.rowIs g3 5 33 (fun i => if 32 - i < p then bF 33 (A + B) i else .int .u8 0) ∧ wr.rowIs g0 67 32 (bF 32 A) ∧ wr.rowIs g1 67 32 (bF 32 B) ∧ wr.rowIs g2 67 32 (fun _ => .int .u8 0) ∧ Below g0 w wr) (fun _ jj _ => ((intOf jj) + 1).toNat)
  case atStart => exact ⟨0, 0, Nat.zero_le _, Lib.hid (cyA_zero A B).symm, rfl, rfl, hrC', hrA, hrB, hrR, hbel⟩
  case round =>
    clear hrC' hrA hrB hrR hbel
    obtain ⟨p, c, hp, HC, rfl, rfl, hrC, hrA, hrB, hrR, hbel⟩ := hrel
    by_cases hp32 : p < 32
    · obtain ⟨j, hj⟩ := nat_var (31 - p)
      rw [show 31 - (p : Int) = (j : Int) by omega]
      have HJ := Lib.hid hj
      have hjI : 0 ≤ (j : Int) ∧ (j : Int) < 32 := by omega
      have hcA := hrA.cell (i := j) (by omega)
      have hcB := hrB.cell (i := j) (by omega)
      unfold bF at hcA hcB
      rw [show 32 - 1 - j = p by omega] at hcA hcB
      have hcs := cyA_step A B p
      have hcle := cyA_le A B p
      have hcl2 := cyA_le A B (p + 1)
      have hsl := byteN_lt (A + B) p
      rw [← HC.out] at hcs hcle
      obtain ⟨a, ha⟩ := nat_var (byteN A p)
      have hal : a < 256 := by rw [ha]; exact byteN_lt A p
      obtain ⟨b, hb⟩ := nat_var (byteN B p)
      have hbl : b < 256 := by rw [hb]; exact byteN_lt B p
      rw [← ha] at hcA hcs
      rw [← hb] at hcB hcs
      obtain ⟨v, hv⟩ := nat_var (a + b + c)
      obtain ⟨z, hz⟩ := nat_var (v % 256)
      obtain ⟨q, hq⟩ := nat_var (v / 256)
      obtain ⟨ab, hab⟩ := nat_var (a + b)
      have hz2 : z = byteN (A + B) p := by omega
      have hq2 : q = cyA A B (p + 1) := by omega
      have HQ2 := Lib.hid hq2
      have hwa : IntKind.i64.wrap (a : Int) = (a : Int) := IntWalk.i64_in _ (by omega)
      have hwb : IntKind.i64.wrap (b : Int) = (b : Int) := IntWalk.i64_in _ (by omega)
      have hwab : IntKind.i64.wrap ((a : Int) + (b : Int)) = (ab : Int) := by rw [IntWalk.i64_in _ (by omega)]; omega
      have hwv : IntKind.i64.wrap ((ab : Int) + (c : Int)) = (v : Int) := by rw [IntWalk.i64_in _ (by omega)]; omega
      have hwz : IntKind.u8.wrap (v : Int) = (z : Int) := by rw [IntKind.wrap_u8]; omega
      obtain ⟨j1, hj1⟩ := nat_var (j + 1)
      have hwj1 : IntKind.i64.wrap ((j : Int) + 1) = (j1 : Int) := by rw [IntWalk.i64_in _ (by omega)]; omega
      have hj1I : 0 ≤ (j1 : Int) ∧ (j1 : Int) < 33 := by omega
      have hwj : IntKind.i64.wrap ((j : Int) - 1) = (j : Int) - 1 := IntWalk.i64_in _ (by omega)
      have hfr := hrC.frozen j1
      have hcC := hrC.cell (i := j1) (by omega)
      rw [if_neg (by omega)] at hcC
      have hset : (wr.drew.setCell ⟨g3, j1, none⟩ (.int .u8 (z : Int))).rowIs g3 5 33 (fun i => if 32 - i < p + 1 then bF 33 (A + B) i else .int .u8 0) := (hrC.drew.set j1 _).congr fun i hi => by
        show (if i = j1 then _ else _) = _
        by_cases e : i = j1
        · rw [if_pos e, if_pos (by omega)]
          unfold bF
          rw [show 33 - 1 - i = p by omega, ← hz2]
        · rw [if_neg e]
          by_cases e2 : 32 - i < p
          · rw [if_pos e2, if_pos (by omega)]
          · rw [if_neg e2, if_neg (by omega)]
      have kA := gb_rowIs hrA.drew (grownBy_set _ g3 j1 (.int .u8 (z : Int))) n03
      have kB := gb_rowIs hrB.drew (grownBy_set _ g3 j1 (.int .u8 (z : Int))) n13
      have kR := gb_rowIs hrR.drew (grownBy_set _ g3 j1 (.int .u8 (z : Int))) n23
      have kb := hbel.drew.setCell (p := ⟨g3, j1, none⟩) l3 (.int .u8 (z : Int))
      have HQ := Lib.hid hq
      have HVL : Hid (v < 1000000000) := Lib.hid (by omega)
      clear hj ha hb hv hz hq hab hz2 hq2 hcs hcle hcl2 hsl hal hbl hj1 hrC hrA hrB hrR hbel
      go_wp2
      go_region
      go_wp2_with (refine wpList_shrI8 rfl (.tmp 31) (.const (.int .u64 8)) rfl rfl rfl HQ.out HVL.out ?_)
      go_roundw
      case rel => exact ⟨p + 1, q, by omega, HQ2, rfl, by have := HJ.out; go_num, hset, kA, kB, kR, kb⟩
      case measure => (have := HJ.out; simp [intOf]; try omega)
    · obtain rfl : p = 32 := by omega
      have hcle := cyA_le A B 32
      rw [← HC.out] at hcle
      have hwc : IntKind.u8.wrap (c : Int) = (c : Int) := IntWalk.u8_in _ ⟨by omega, by omega⟩
      have hfr := hrC.frozen 0
      have hcC := hrC.cell (i := 0) (by omega)
      rw [if_neg (by omega)] at hcC
      have hset : (wr.setCell ⟨g3, 0, none⟩ (.int .u8 (c : Int))).rowIs g3 5 33 (bF 33 (A + B)) := (hrC.set 0 _).congr fun i hi => by
        show (if i = 0 then _ else _) = _
        by_cases e : i = 0
        · subst e
          rw [if_pos rfl]
          unfold bF
          rw [show 33 - 1 - 0 = 32 from rfl, H32.out, ← HC.out]
        · rw [if_neg e, if_pos (by omega)]
      have hBs := bF_bs hset (by omega)
      have kR := gb_rowIs hrR (grownBy_set _ g3 0 (.int .u8 (c : Int))) n23
      have kb := hbel.setCell (p := ⟨g3, 0, none⟩) l3 (.int .u8 (c : Int))
      clear hrC hrA hrB hrR hbel hset hcle
      go_wp2_with (first
        | (go_at_call 83; refine (HM.out _ _ hBs).mono ?_; rintro e w5 ⟨rfl, hb5⟩
           have kR5 := kR.of_block (hb5.block _ kR.lt)
           have kb5 := kb.trans (hb5.mono (HGS.out _ kb))
           clear kR kb hb5 hBs)
        | (refine wpList_store_arr rfl 67 (.tmp 4) (.tmp 38) rfl 32 arrSc kR5 rfl rfl (by omega) (fun _ _ => rfl) ?_; intro wd hrd hgd hsd))
      refine ret_cell_arr rfl arrSc hrd rfl (by omega) rfl ⟨?_, by rw [HG.out]; exact kb5.grown hgd (HGS.out _ kb5) (by intro k hk; cases hk; exact l2)⟩
      refine congrArg (fun x => Ending.returned (.agg x)) (arrOf_congr fun i hi => ?_)
      unfold putN
      rw [if_pos (by omega), Nat.zero_add, Nat.sub_zero]
end Go.Proofs.YtonhpmaiagbheaaGreat

/- The document's numbers below L: Mul. -/
namespace Go.Proofs.YtonhpmaiagbheaaGreat
open Go.RowKit Go.Deep
set_option linter.unusedSimpArgs false
set_option linter.unusedVariables false

def valB (f : Nat → Nat) : Nat → Nat
  | 0 => 0
  | n + 1 => valB f n + f n * 256 ^ n
theorem valB_zero : ∀ n, valB (fun _ => 0) n = 0
  | 0 => rfl
  | n + 1 => by rw [valB, valB_zero n, Nat.zero_mul]
def bump (f : Nat → Nat) (m d : Nat) : Nat → Nat := fun s => if s = m then f s + d else f s
theorem valB_out (f : Nat → Nat) (m d : Nat) : ∀ n, n ≤ m → valB (bump f m d) n = valB f n
  | 0, _ => rfl
  | n + 1, h => by
    rw [valB, valB, valB_out f m d n (by omega)]
    unfold bump
    rw [if_neg (by omega)]
theorem valB_bump (f : Nat → Nat) (m d : Nat) : ∀ n, m < n → valB (bump f m d) n = valB f n + d * 256 ^ m
  | 0, h => by omega
  | n + 1, h => by
    rw [valB, valB]
    by_cases e : n = m
    · subst e
      rw [valB_out f n d n (Nat.le_refl _)]
      unfold bump
      rw [if_pos rfl, Nat.add_mul]
      omega
    · rw [valB_bump f m d n (by omega)]
      unfold bump
      rw [if_neg e]
      omega
theorem valB_more (f : Nat → Nat) (s : Nat) : ∀ d, ∃ R, valB f (s + d) = valB f s + 256 ^ s * R
  | 0 => ⟨0, by simp⟩
  | d + 1 => by
    obtain ⟨R, hR⟩ := valB_more f s d
    refine ⟨R + f (s + d) * 256 ^ d, ?_⟩
    show valB f (s + d) + f (s + d) * 256 ^ (s + d) = _
    rw [hR, Nat.mul_add, Nat.pow_add]
    have : f (s + d) * (256 ^ s * 256 ^ d) = 256 ^ s * (f (s + d) * 256 ^ d) := by ac_rfl
    omega
/-- What is carried into the place s. -/
def cyV (f : Nat → Nat) (s : Nat) : Nat := valB f s / 256 ^ s
theorem cyV_zero (f : Nat → Nat) : cyV f 0 = 0 := by simp [cyV, valB]
theorem cyV_next (f : Nat → Nat) (s : Nat) : valB f (s + 1) / 256 ^ s = f s + cyV f s := by
  unfold cyV
  rw [valB, Nat.mul_comm (f s), Nat.add_mul_div_left _ _ (pow256_pos s)]
  omega
theorem cyV_step (f : Nat → Nat) (n s : Nat) (h : s < n) : byteN (valB f n) s = (f s + cyV f s) % 256 ∧ cyV f (s + 1) = (f s + cyV f s) / 256 := by
  constructor
  · obtain ⟨R, hR⟩ := valB_more f (s + 1) (n - (s + 1))
    rw [show s + 1 + (n - (s + 1)) = n by omega] at hR
    unfold byteN
    rw [hR, Nat.pow_succ, Nat.mul_assoc, Nat.add_mul_div_left _ _ (pow256_pos s), cyV_next, Nat.add_mul_mod_self_left]
  · rw [← cyV_next]
    unfold cyV
    rw [Nat.pow_succ, Nat.div_div_eq_div_mul]
theorem mul_step (A B i k V : Nat) (hi : i < 32) (hk : k < 32) (h : V + A % 256 ^ (31 - i) * B + byteN A (31 - i) * 256 ^ (31 - i) * (B % 256 ^ (32 - k)) = A * B) :
    V + byteN A (31 - i) * byteN B (31 - k) * 256 ^ (62 - i - k) + A % 256 ^ (31 - i) * B + byteN A (31 - i) * 256 ^ (31 - i) * (B % 256 ^ (32 - (k + 1))) = A * B := by
  rw [← h, show 32 - k = (31 - k) + 1 by omega, show 32 - (k + 1) = 31 - k by omega, mod_next B (31 - k), show 62 - i - k = (31 - i) + (31 - k) by omega, Nat.pow_add, Nat.mul_add]
  have : byteN A (31 - i) * byteN B (31 - k) * (256 ^ (31 - i) * 256 ^ (31 - k)) = byteN A (31 - i) * 256 ^ (31 - i) * (256 ^ (31 - k) * byteN B (31 - k)) := by ac_rfl
  omega
theorem mul_row (A B i V : Nat) (hi : i < 32) (hB : B < 256 ^ 32) (h : V + A % 256 ^ (32 - i) * B = A * B) :
    V + A % 256 ^ (31 - i) * B + byteN A (31 - i) * 256 ^ (31 - i) * (B % 256 ^ (32 - 0)) = A * B := by
  rw [← h, Nat.sub_zero, Nat.mod_eq_of_lt hB, show 32 - i = (31 - i) + 1 by omega, mod_next A (31 - i), Nat.add_mul]
  have : byteN A (31 - i) * 256 ^ (31 - i) * B = 256 ^ (31 - i) * byteN A (31 - i) * B := by ac_rfl
  omega
theorem mul_next (A B i V : Nat) (hi : i < 32) (h : V + A % 256 ^ (31 - i) * B + byteN A (31 - i) * 256 ^ (31 - i) * (B % 256 ^ (32 - 32)) = A * B) : V + A % 256 ^ (32 - (i + 1)) * B = A * B := by
  rw [Nat.sub_self, Nat.pow_zero, Nat.mod_one, Nat.mul_zero, Nat.add_zero] at h
  rw [show 32 - (i + 1) = 31 - i by omega]
  exact h
theorem run_make64i (w : World) : (Instr.makeSlice 82 (.int .i64 64) (.int .i64 64)).run Tryz.prog w = .ok (.slice (some ⟨w.heap.size, 0, none⟩) 64 64) (w.alloc (.cells (madeCells #[.int .i64 0] 64) 3)) := by kernel_rfl
theorem run_make64 (w : World) : (Instr.makeSlice 22 (.int .i64 64) (.int .i64 64)).run Tryz.prog w = .ok (.slice (some ⟨w.heap.size, 0, none⟩) 64 64) (w.alloc (.cells (madeCells #[.int .u8 0] 64) 5)) := by kernel_rfl
/-- The row of the products' sums. -/
def cF (f : Nat → Nat) : Nat → Value := fun m => .int .i64 ((f (63 - m) : Nat) : Int)
theorem bump_le {f : Nat → Nat} {n D m d : Nat} (h : ∀ s, f s ≤ n * D) (hd : d ≤ D) (s : Nat) : bump f m d s ≤ (n + 1) * D := by
  have h1 := h s
  rw [Nat.succ_mul]
  unfold bump
  generalize n * D = z at *
  split <;> omega
set_option maxHeartbeats 4000000 in
theorem refScMul_any (A B : Nat) (w : World) (hA : A < ordL) (hB : B < ordL) : Calls Tryz.prog 37 #[.agg (arrOf 32 (bF 32 A)), .agg (arrOf 32 (bF 32 B))] w fun e w' => e = .returned (.agg (arrOf 32 (bF 32 (A * B % ordL)))) ∧ Below w.heap.size w w' := by
  obtain ⟨w4, hw4⟩ : ∃ w4, w4 = (((w.alloc (.cells (arrOf 32 (bF 32 A)) 67)).alloc (.cells (arrOf 32 (bF 32 B)) 67)).alloc (.cells (arrOf 32 fun _ => .int .u8 0) 67)).alloc (.cells (madeCells #[.int .i64 0] 64) 3) := ⟨_, rfl⟩
  have hrA : w4.rowIs w.heap.size 67 32 (bF 32 A) := by rw [hw4]; exact (((rowIs_arr w 32 (bF 32 A) _).alloc _).alloc _).alloc _
  have hrB : w4.rowIs (w.heap.size + 1) 67 32 (bF 32 B) := by
    rw [hw4]
    have h := rowIs_arr (w.alloc (.cells (arrOf 32 (bF 32 A)) 67)) 32 (bF 32 B) 67
    rw [World.size_alloc] at h
    exact (h.alloc _).alloc _
  have hrR : w4.rowIs (w.heap.size + 1 + 1) 67 32 (fun _ => .int .u8 0) := by
    rw [hw4]
    have h := rowIs_arr ((w.alloc (.cells (arrOf 32 (bF 32 A)) 67)).alloc (.cells (arrOf 32 (bF 32 B)) 67)) 32 (fun _ => .int .u8 0) 67
    rw [World.size_alloc, World.size_alloc] at h
    exact h.alloc _
  have hrC : w4.rowIs (w.heap.size + 1 + 1 + 1) 3 64 (cF fun _ => 0) := by
    rw [hw4]
    have h := World.rowIs_made (((w.alloc (.cells (arrOf 32 (bF 32 A)) 67)).alloc (.cells (arrOf 32 (bF 32 B)) 67)).alloc (.cells (arrOf 32 fun _ => .int .u8 0) 67)) (.int .i64 0) 64 3
    rw [World.size_alloc, World.size_alloc, World.size_alloc] at h
    exact h.congr fun i _ => rfl
  have hbel : Below w.heap.size w w4 := by
    rw [hw4]
    exact ((((Below.refl _ _).alloc (Nat.le_refl _) _).alloc (by simp) _).alloc (by simp; omega) _).alloc (by simp; omega) _
  have hmk := run_make64i
  have hA32 : A < 256 ^ 32 := Nat.lt_trans hA ordL_lt
  have hB32 : B < 256 ^ 32 := Nat.lt_trans hB ordL_lt
  have hAB : A * B < 256 ^ 64 := by
    rw [show (256 : Nat) ^ 64 = 256 ^ 32 * 256 ^ 32 by rw [← Nat.pow_add]]
    exact Nat.mul_lt_mul'' hA32 hB32
  have HB32 := Lib.hid hB32
  have hst : valB (fun _ => 0) 64 + A % 256 ^ (32 - 0) * B = A * B := by rw [valB_zero, Nat.sub_zero, Nat.mod_eq_of_lt hA32, Nat.zero_add]
  obtain ⟨V, hV⟩ := nat_var (A * B)
  have HV := Lib.hid hV
  have HM := Lib.hid fun v w (h : Bs w v (beN V 64)) => refMod_any v (beN V 64) w h (by rw [beN_length]; omega)
  rw [← hV] at hAB ⊢
  rw [beN_length, beN_exp, Nat.mod_eq_of_lt hAB] at HM
  rw [← hV] at hst
  clear hA hB hA32 hB32 hAB hV
  go_enter Tryz.func37, Tryz.ntmps37
  go_wp2_with (refine wpList_alloc_arr rfl 67 rfl (arrOf 32 fun _ => .int .u8 0) zeroSc ?_)
  rw [← hw4]
  clear hw4 hmk
  generalize hg0 : w.heap.size = g0 at *
  generalize hg1 : g0 + 1 = g1 at *
  generalize hg2 : g1 + 1 = g2 at *
  generalize hg3 : g2 + 1 = g3 at *
  have n03 : g0 ≠ g3 := by omega
  have n13 : g1 ≠ g3 := by omega
  have n23 : g2 ≠ g3 := by omega
  have l2 : g0 ≤ g2 := by omega
  have l3 : g0 ≤ g3 := by omega
  have HG := Lib.hid hg0
  have HGS : Hid (∀ wq : World, Below g0 w wq → g0 ≤ wq.heap.size) := Lib.hid fun wq h => by rw [← HG.out]; exact h.size
  clear hg0 hg1 hg2 hg3
  go_loopw [6] (fun ii wr => ∃ i : Nat, ∃ f : Nat → Nat, i ≤ 32 ∧ ii = .int .i64 (i : Int) ∧ Hid (valB f 64 + A % 256 ^ (32 - i) * B = V) ∧ Hid (∀ s, f s ≤ 32 * i * 65025) ∧ wr.rowIs g3 3 64 (cF f) ∧ wr.rowIs g0 67 32 (bF 32 A) ∧ wr.rowIs g1 67 32 (bF 32 B) ∧ wr.rowIs g2 67 32 (fun _ => .int .u8 0) ∧ Below g0 w wr) (fun ii _ => 32 - (intOf ii).toNat)
  case atStart => exact ⟨0, _, Nat.zero_le _, rfl, Lib.hid hst, Lib.hid fun _ => Nat.zero_le _, hrC, hrA, hrB, hrR, hbel⟩
  case round =>
    clear hrC hrA hrB hrR hbel hst
    obtain ⟨i, f, hi, rfl, HI, HF, hrC, hrA, hrB, hrR, hbel⟩ := hrel
    by_cases hi32 : i < 32
    · have hiI : 0 ≤ (i : Int) ∧ (i : Int) < 32 := by omega
      have hst := mul_row A B i (valB f 64) hi32 HB32.out (by rw [HI.out, HV.out])
      have HST : Hid (valB f 64 + A % 256 ^ (31 - i) * B + byteN A (31 - i) * 256 ^ (31 - i) * (B % 256 ^ (32 - 0)) = A * B) := Lib.hid hst
      clear hst HI
      go_wp2
      go_loopw [7] (fun kk wq => ∃ k : Nat, ∃ f : Nat → Nat, k ≤ 32 ∧ kk = .int .i64 (k : Int) ∧ Hid (valB f 64 + A % 256 ^ (31 - i) * B + byteN A (31 - i) * 256 ^ (31 - i) * (B % 256 ^ (32 - k)) = A * B) ∧ Hid (∀ s, f s ≤ (32 * i + k) * 65025) ∧ wq.rowIs g3 3 64 (cF f) ∧ wq.rowIs g0 67 32 (bF 32 A) ∧ wq.rowIs g1 67 32 (bF 32 B) ∧ wq.rowIs g2 67 32 (fun _ => .int .u8 0) ∧ Below g0 w wq) (fun kk _ => 32 - (intOf kk).toNat)
      case atStart => exact ⟨0, f, Nat.zero_le _, rfl, HST, HF, hrC, hrA, hrB, hrR, hbel⟩
      case round =>
        clear hrC hrA hrB hrR hbel HST HF
        obtain ⟨k, f, hk, rfl, HI, HF, hrC, hrA, hrB, hrR, hbel⟩ := hrel
        by_cases hk32 : k < 32
        · have hkI : 0 ≤ (k : Int) ∧ (k : Int) < 32 := by omega
          have hcA := hrA.cell (i := i) (by omega)
          have hcB := hrB.cell (i := k) (by omega)
          unfold bF at hcA hcB
          rw [show 32 - 1 - i = 31 - i by omega] at hcA
          rw [show 32 - 1 - k = 31 - k by omega] at hcB
          obtain ⟨m, hm⟩ := nat_var (i + k + 1)
          obtain ⟨ik, hik⟩ := nat_var (i + k)
          have hcC := hrC.cell (i := m) (by omega)
          unfold cF at hcC
          have hfr := hrC.frozen m
          have hms := mul_step A B i k (valB f 64) hi32 hk32 HI.out
          have hvb := valB_bump f (62 - i - k) (byteN A (31 - i) * byteN B (31 - k)) 64 (by omega)
          rw [← hvb] at hms
          have HMS := Lib.hid hms
          obtain ⟨a, ha⟩ := nat_var (byteN A (31 - i))
          have hal : a < 256 := by rw [ha]; exact byteN_lt A _
          obtain ⟨b, hb⟩ := nat_var (byteN B (31 - k))
          have hbl : b < 256 := by rw [hb]; exact byteN_lt B _
          obtain ⟨ab, hab⟩ := nat_var (a * b)
          have habl : ab ≤ 65025 := by rw [hab]; exact Nat.le_trans (Nat.mul_le_mul (show a ≤ 255 by omega) (show b ≤ 255 by omega)) (by decide)
          have HAB : Hid (ab = byteN A (31 - i) * byteN B (31 - k)) := Lib.hid (by rw [hab, ha, hb])
          rw [← ha] at hcA
          rw [← hb] at hcB
          obtain ⟨fs, hfs⟩ := nat_var (f (63 - m))
          have hfl : fs ≤ (32 * i + k) * 65025 := by rw [hfs]; exact HF.out _
          rw [← hfs] at hcC
          obtain ⟨nf, hnf⟩ := nat_var (fs + ab)
          have hwa : IntKind.i64.wrap (a : Int) = (a : Int) := IntWalk.i64_in _ (by omega)
          have hwb : IntKind.i64.wrap (b : Int) = (b : Int) := IntWalk.i64_in _ (by omega)
          have hwab : IntKind.i64.wrap ((a : Int) * (b : Int)) = (ab : Int) := by rw [← Int.natCast_mul, ← hab]; exact IntWalk.i64_in _ (by omega)
          have hwf : IntKind.i64.wrap ((fs : Int) + (ab : Int)) = (nf : Int) := by rw [IntWalk.i64_in _ (by omega)]; omega
          have hwik : IntKind.i64.wrap ((i : Int) + (k : Int)) = (ik : Int) := by rw [IntWalk.i64_in _ (by omega)]; omega
          have hwm : IntKind.i64.wrap ((ik : Int) + 1) = (m : Int) := by rw [IntWalk.i64_in _ (by omega)]; omega
          have hmI : 0 ≤ (m : Int) ∧ (m : Int) < 64 := by omega
          have HF2 : Hid (∀ s, bump f (62 - i - k) (byteN A (31 - i) * byteN B (31 - k)) s ≤ (32 * i + (k + 1)) * 65025) := Lib.hid fun s => by
            rw [← HAB.out]
            exact bump_le HF.out habl s
          have hset : (wr.drew.setCell ⟨g3, m, none⟩ (.int .i64 (nf : Int))).rowIs g3 3 64 (cF (bump f (62 - i - k) (byteN A (31 - i) * byteN B (31 - k)))) := (hrC.drew.set m _).congr fun q hq => by
            show (if q = m then _ else _) = _
            unfold cF bump
            by_cases e : q = m
            · rw [if_pos e, if_pos (by omega), ← HAB.out, hnf, hfs, e]
            · rw [if_neg e, if_neg (by omega)]
          have kA := gb_rowIs hrA.drew (grownBy_set _ g3 m (.int .i64 (nf : Int))) n03
          have kB := gb_rowIs hrB.drew (grownBy_set _ g3 m (.int .i64 (nf : Int))) n13
          have kR := gb_rowIs hrR.drew (grownBy_set _ g3 m (.int .i64 (nf : Int))) n23
          have kb := hbel.drew.setCell (p := ⟨g3, m, none⟩) l3 (.int .i64 (nf : Int))
          clear hm hik hms hvb ha hal hb hbl hab habl hfs hfl hnf HI HF hrC hrA hrB hrR hbel HAB
          go_wp2
          go_region
          go_wp2
          go_roundw
          case rel => exact ⟨k + 1, _, by omega, by go_num, HMS, HF2, hset, kA, kB, kR, kb⟩
          case measure => (simp [intOf]; try omega)
        · obtain rfl : k = 32 := by omega
          have hn := mul_next A B i (valB f 64) hi32 HI.out
          have HN : Hid (valB f 64 + A % 256 ^ (32 - (i + 1)) * B = V) := Lib.hid (by rw [hn, HV.out])
          have HF2 : Hid (∀ s, f s ≤ 32 * (i + 1) * 65025) := Lib.hid fun s => by have := HF.out s; omega
          clear hn HI HF
          go_wp2
          go_roundw
          case rel => exact ⟨i + 1, f, by omega, by go_num, HN, HF2, hrC, hrA, hrB, hrR, hbel⟩
          case measure => (simp [intOf]; try omega)
    · obtain rfl : i = 32 := by omega
      have HE : Hid (valB f 64 = V) := Lib.hid (by have h := HI.out; rwa [Nat.sub_self, Nat.pow_zero, Nat.mod_one, Nat.zero_mul, Nat.add_zero] at h)
      have HF2 : Hid (∀ s, f s ≤ 66585600) := Lib.hid fun s => by have := HF.out s; omega
      clear HI HF
      rw [show ((32 : Nat) : Int) = 32 from rfl]
      have hmk := run_make64 wr
      have kC := hrC.alloc (.cells (madeCells #[.int .u8 0] 64) 5)
      have kR := hrR.alloc (.cells (madeCells #[.int .u8 0] 64) 5)
      have kO := (World.rowIs_made wr (.int .u8 0) 64 5).congr (g := fun i => if 63 - i < 0 then bF 64 V i else .int .u8 0) fun i _ => by rw [if_neg (Nat.not_lt_zero _)]
      have kb := hbel.alloc (HGS.out _ hbel) (.cells (madeCells #[.int .u8 0] 64) 5)
      have hlC := hrC.lt
      have hlR := hrR.lt
      have hge := HGS.out _ hbel
      clear hrC hrA hrB hrR hbel
      go_wp2
      generalize hwa : wr.alloc (.cells (madeCells #[.int .u8 0] 64) 5) = wa at *
      generalize hgo : wr.heap.size = go at *
      have nCO : g3 ≠ go := by omega
      have nRO : g2 ≠ go := by omega
      have lO : g0 ≤ go := by omega
      clear hwa hgo hlC hlR hge hmk
      go_loopw [9, 10] (fun cc jj wq => ∃ s c : Nat, s ≤ 64 ∧ Hid (c = cyV f s) ∧ Hid (c ≤ 66585600) ∧ cc = .int .i64 (c : Int) ∧ jj = .int .i64 (63 - (s : Int)) ∧ wq.rowIs go 5 64 (fun i => if 63 - i < s then bF 64 V i else .int .u8 0) ∧ wq.rowIs g3 3 64 (cF f) ∧ wq.rowIs g2 67 32 (fun _ => .int .u8 0) ∧ Below g0 w wq) (fun _ jj _ => ((intOf jj) + 1).toNat)
      case atStart => exact ⟨0, 0, Nat.zero_le _, Lib.hid (cyV_zero f).symm, Lib.hid (Nat.zero_le _), rfl, rfl, kO, kC, kR, kb⟩
      case round =>
        clear kO kC kR kb
        obtain ⟨s, c, hs, HC, HCL, rfl, rfl, hO, hC, hR, hb⟩ := hrel
        by_cases hs64 : s < 64
        · obtain ⟨j, hj⟩ := nat_var (63 - s)
          rw [show 63 - (s : Int) = (j : Int) by omega]
          have HJ := Lib.hid hj
          have hjI : 0 ≤ (j : Int) ∧ (j : Int) < 64 := by omega
          have hcC := hC.cell (i := j) (by omega)
          unfold cF at hcC
          rw [show 63 - j = s by omega] at hcC
          have hcO := hO.cell (i := j) (by omega)
          rw [if_neg (by omega)] at hcO
          have hfr := hO.frozen j
          have hst := cyV_step f 64 s hs64
          rw [HE.out, ← HC.out] at hst
          have hfl := HF2.out s
          have hcl := HCL.out
          obtain ⟨fs, hfs⟩ := nat_var (f s)
          rw [← hfs] at hcC hst hfl
          obtain ⟨v, hv⟩ := nat_var (fs + c)
          rw [← hv] at hst
          obtain ⟨z, hz⟩ := nat_var (v % 256)
          obtain ⟨q, hq⟩ := nat_var (v / 256)
          have hz2 : z = byteN V s := by rw [hst.1, hz]
          have HQ2 : Hid (q = cyV f (s + 1)) := Lib.hid (by rw [hst.2, hq])
          have HQL : Hid (q ≤ 66585600) := Lib.hid (by omega)
          have hwv : IntKind.i64.wrap ((fs : Int) + (c : Int)) = (v : Int) := by rw [IntWalk.i64_in _ (by omega)]; omega
          have hwz : IntKind.u8.wrap (v : Int) = (z : Int) := by rw [IntKind.wrap_u8]; omega
          have hwj : IntKind.i64.wrap ((j : Int) - 1) = (j : Int) - 1 := IntWalk.i64_in _ (by omega)
          have hset : (wr.setCell ⟨go, j, none⟩ (.int .u8 (z : Int))).rowIs go 5 64 (fun i => if 63 - i < s + 1 then bF 64 V i else .int .u8 0) := (hO.set j _).congr fun i hi => by
            show (if i = j then _ else _) = _
            by_cases e : i = j
            · rw [if_pos e, if_pos (by omega)]
              unfold bF
              rw [show 64 - 1 - i = s by omega, ← hz2]
            · rw [if_neg e]
              by_cases e2 : 63 - i < s
              · rw [if_pos e2, if_pos (by omega)]
              · rw [if_neg e2, if_neg (by omega)]
          have kC := gb_rowIs hC (grownBy_set _ go j (.int .u8 (z : Int))) nCO
          have kR := gb_rowIs hR (grownBy_set _ go j (.int .u8 (z : Int))) nRO
          have kb := hb.setCell (p := ⟨go, j, none⟩) lO (.int .u8 (z : Int))
          have HQ := Lib.hid hq
          have HVL : Hid (v < 1000000000) := Lib.hid (by omega)
          clear hj hfs hst hfl hcl hv hz hq hz2 hO hC hR hb
          go_wp2_with (refine wpList_shrI8 rfl (.tmp 60) (.const (.int .u64 8)) rfl rfl rfl HQ.out HVL.out ?_)
          go_roundw
          case rel => exact ⟨s + 1, q, by omega, HQ2, HQL, rfl, by have := HJ.out; go_num, hset, kC, kR, kb⟩
          case measure => (have := HJ.out; simp [intOf]; try omega)
        · obtain rfl : s = 64 := by omega
          have hBs := bF_bs (hO.congr (g := bF 64 V) fun i hi => by rw [if_pos (by omega)]) (by omega)
          clear hO hC
          go_wp2_with (first
            | (go_at_call 83; refine (HM.out _ _ hBs).mono ?_; rintro e w5 ⟨rfl, hb5⟩
               have kR5 := hR.of_block (hb5.block _ hR.lt)
               have kb5 := hb.trans (hb5.mono (HGS.out _ hb))
               clear hR hb hb5 hBs)
            | (refine wpList_store_arr rfl 67 (.tmp 4) (.tmp 63) rfl 32 arrSc kR5 rfl rfl (by omega) (fun _ _ => rfl) ?_; intro wd hrd hgd hsd))
          refine ret_cell_arr rfl arrSc hrd rfl (by omega) rfl ⟨?_, by rw [HG.out]; exact kb5.grown hgd (HGS.out _ kb5) (by intro k hk; cases hk; exact l2)⟩
          refine congrArg (fun x => Ending.returned (.agg x)) (arrOf_congr fun i hi => ?_)
          unfold putN
          rw [if_pos (by omega), Nat.zero_add, Nat.sub_zero]
end Go.Proofs.YtonhpmaiagbheaaGreat

/- The document's numbers below L: Neg, Bit. -/
namespace Go.Proofs.YtonhpmaiagbheaaGreat
open Go.RowKit Go.Deep
set_option linter.unusedSimpArgs false
set_option linter.unusedVariables false

/-- Digit k of a number; none outside of 0 to 255. -/
def bitZ (V : Nat) (k : Int) : Nat := if 0 ≤ k ∧ k ≤ 255 then V / 2 ^ k.toNat % 2 else 0
set_option maxHeartbeats 1000000 in
theorem refScBit_any (V : Nat) (k : Int) (w : World) (hk0 : -9223372036854775808 ≤ k) (hk1 : k ≤ 9223372036854775807) : Calls Tryz.prog 82 #[.agg (arrOf 32 (bF 32 V)), .int .i64 k] w fun e w' => e = .returned (.int .i64 (bitZ V k : Nat)) ∧ Below w.heap.size w w' := by
  have hr := rowIs_arr w 32 (bF 32 V) 67
  have hb0 := (Below.refl w.heap.size w).alloc (Nat.le_refl _) (.cells (arrOf 32 (bF 32 V)) 67)
  by_cases h0 : 0 ≤ k
  · by_cases h1 : k ≤ 255
    · obtain ⟨n, rfl⟩ := Int.eq_ofNat_of_zero_le h0
      have hbz : bitZ V (n : Int) = V / 2 ^ n % 2 := by unfold bitZ; rw [if_pos ⟨h0, h1⟩]; rfl
      have hbt := bit_at V n
      obtain ⟨q, hq⟩ := nat_var (n / 8)
      obtain ⟨r, hr8⟩ := nat_var (n % 8)
      rw [← hq, ← hr8] at hbt
      have hc : (w.alloc (.cells (arrOf 32 (bF 32 V)) 67)).cell? ⟨w.heap.size, 31 - q, none⟩ = some (.int .u8 ((byteN V q : Nat) : Int)) := by
        rw [hr.cell (i := 31 - q) (by omega)]
        unfold bF
        rw [show 32 - 1 - (31 - q) = q by omega]
      obtain ⟨x, hx⟩ := nat_var (byteN V q)
      have hxl : x < 256 := by rw [hx]; exact byteN_lt V q
      rw [← hx] at hc hbt
      obtain ⟨y, hy⟩ := nat_var (x / 2 ^ r)
      have hyl : y < 256 := by rw [hy]; exact Nat.lt_of_le_of_lt (Nat.div_le_self _ _) hxl
      rw [← hy] at hbt
      obtain ⟨b, hb⟩ := nat_var (y % 2)
      rw [← hb] at hbt
      obtain ⟨j, hj⟩ := nat_var (31 - q)
      rw [← hj] at hc
      have hwj : IntKind.i64.wrap (31 - (q : Int)) = (j : Int) := by rw [IntWalk.i64_in _ (by omega)]; omega
      have hjI : 0 ≤ (j : Int) ∧ (j : Int) < 32 := by omega
      have hwb : IntKind.i64.wrap (b : Int) = (b : Int) := IntWalk.i64_in _ (by omega)
      have hn0 : ¬ (n : Int) < 0 := by omega
      have hn255 : ¬ (n : Int) > 255 := by omega
      have HQ := Lib.hid hq
      have HR := Lib.hid hr8
      have HNN : Hid (n < 1000) := Lib.hid (by omega)
      have HY := Lib.hid hy
      have HRL : Hid (r < 8) := Lib.hid (by omega)
      have HXL := Lib.hid hxl
      have HB := Lib.hid hb
      have HYL := Lib.hid hyl
      rw [hbz, ← hbt]
      clear hbz hbt hq hr8 hx hxl hy hyl hb hj h0 h1 hk0 hk1 hr
      go_enter Tryz.func82, Tryz.ntmps82
      go_wp2_with (first
        | refine wpList_quo8 rfl (.tmp 11) (.const (.int .i64 8)) rfl rfl rfl HQ.out HNN.out ?_
        | refine wpList_rem8 rfl (.tmp 16) (.const (.int .i64 8)) rfl rfl rfl HR.out HNN.out ?_
        | refine wpList_shr8 rfl (.tmp 15) (.tmp 17) rfl rfl rfl HY.out HRL.out HXL.out ?_
        | refine wpList_and1 rfl (.tmp 18) (.const (.int .u8 1)) rfl rfl rfl HB.out HYL.out ?_)
      go_ret
      exact ⟨rfl, hb0⟩
    · have hbz : bitZ V k = 0 := by unfold bitZ; rw [if_neg (fun h => h1 h.2)]
      rw [hbz]
      have hn0 : ¬ k < 0 := by omega
      have hn255 : k > 255 := by omega
      clear h0 h1 hbz hr
      go_enter Tryz.func82, Tryz.ntmps82
      go_wp2
      go_ret
      exact ⟨rfl, hb0⟩
  · have hbz : bitZ V k = 0 := by unfold bitZ; rw [if_neg (fun h => h0 h.1)]
    rw [hbz]
    have hn0 : k < 0 := by omega
    clear h0 hbz hr
    go_enter Tryz.func82, Tryz.ntmps82
    go_wp2
    go_ret
    exact ⟨rfl, hb0⟩
end Go.Proofs.YtonhpmaiagbheaaGreat

/- The document's points: so many times. -/
set_option linter.unusedSimpArgs false
set_option linter.unusedVariables false
namespace Go.Proofs.YtonhpmaiagbheaaGreat
open Go.RowKit Go.Deep

theorem pmulS_lt (d : Nat) (a : Nat × Nat × Nat) (K : Nat) : ∀ i, (pmulS d a K i).1 < p25 ∧ (pmulS d a K i).2.1 < p25 ∧ (pmulS d a K i).2.2 < p25
  | 0 => ⟨p25_pos, Nat.lt_trans (Nat.lt_succ_self 1) p25_two, Nat.lt_trans (Nat.lt_succ_self 1) p25_two⟩
  | i + 1 => by
    unfold pmulS
    split
    · exact padd_lt _ _ _
    · exact padd_lt _ _ _
theorem pmulS_one {d : Nat} {a : Nat × Nat × Nat} {K i : Nat} {x y z x1 y1 z1 x2 y2 z2 : Nat} (h : pmulS d a K i = (x, y, z)) (h1 : padd d (x, y, z) (x, y, z) = (x1, y1, z1)) (h2 : padd d (x1, y1, z1) a = (x2, y2, z2)) (hb : K / 2 ^ (255 - i) % 2 = 1) : pmulS d a K (i + 1) = (x2, y2, z2) := by
  unfold pmulS
  rw [if_pos hb, h, h1, h2]
theorem pmulS_nil {d : Nat} {a : Nat × Nat × Nat} {K i : Nat} {x y z x1 y1 z1 : Nat} (h : pmulS d a K i = (x, y, z)) (h1 : padd d (x, y, z) (x, y, z) = (x1, y1, z1)) (hb : K / 2 ^ (255 - i) % 2 = 0) : pmulS d a K (i + 1) = (x1, y1, z1) := by
  unfold pmulS
  rw [if_neg (by omega), h, h1]
set_option maxHeartbeats 4000000 in
set_option maxRecDepth 10000 in
theorem refMultPt_any (X Y Z V : Nat) (w : World) (HX : X < p25) (HY : Y < p25) (HZ : Z < p25) : Calls Tryz.prog 31 #[.agg (arrOf 48 (ptF X Y Z)), .agg (arrOf 32 (bF 32 V))] w fun e w' => e = .returned (.agg (arrOf 48 (ptF (pmul dP (X, Y, Z) V).1 (pmul dP (X, Y, Z) V).2.1 (pmul dP (X, Y, Z) V).2.2))) ∧ Below w.heap.size w w' := by
  have Bw0 := Below.refl w.heap.size w
  have HGS : Hid (∀ wq : World, Below w.heap.size w wq → w.heap.size ≤ wq.heap.size) := Lib.hid fun wq h => h.size
  replace HX := Lib.hid HX
  replace HY := Lib.hid HY
  replace HZ := Lib.hid HZ
  go_enter Tryz.func31, Tryz.ntmps31
  go_wp2_with (first
    | (have hgo := Bw0; clear hgo
       refine wpList_box_row rfl 63 (.tmp 0) rfl 48 (ptF X Y Z) rfl ?_
       intro b_t2 w1 lk r_t2 kk
       have l_t2 := zrl HGS Bw0 lk
       have Bw1 := zbt HGS Bw0 kk
       clear Bw0 kk lk)
    | (have hgo := Bw1; clear hgo
       refine wpList_box_row rfl 67 (.tmp 1) rfl 32 (bF 32 V) rfl ?_
       intro b_t3 w2 lk r_t3 kk
       have n_t2_t3 := zrn r_t2 lk
       have l_t3 := zrl HGS Bw1 lk
       replace r_t2 := zrb r_t2 kk
       have Bw2 := zbt HGS Bw1 kk
       clear Bw1 kk lk)
    | (have hgo := Bw2; clear hgo
       refine wpList_alloc_row rfl 63 rfl 48 (u64f fun _ => 0) zeroPt ?_
       intro b_t4 w3 lk r_t4 kk
       have n_t2_t4 := zrn r_t2 lk
       have n_t3_t4 := zrn r_t3 lk
       have l_t4 := zrl HGS Bw2 lk
       replace r_t2 := zrb r_t2 kk
       replace r_t3 := zrb r_t3 kk
       have Bw3 := zbt HGS Bw2 kk
       clear Bw2 kk lk)
    | (have hgo := Bw3; clear hgo
       go_at_call 79
       refine (curve_any _).mono ?_
       rintro e w4 ⟨rfl, kk⟩
       replace r_t2 := zrb r_t2 kk
       replace r_t3 := zrb r_t3 kk
       replace r_t4 := zrb r_t4 kk
       have Bw4 := zbt HGS Bw3 kk
       clear Bw3 kk)
    | (have hgo := Bw4; clear hgo
       refine wpList_alloc_row rfl 61 rfl 16 (u64f fun _ => 0) zeroFe ?_
       intro b_t5 w5 lk r_t5 kk
       have n_t2_t5 := zrn r_t2 lk
       have n_t3_t5 := zrn r_t3 lk
       have n_t4_t5 := zrn r_t4 lk
       have l_t5 := zrl HGS Bw4 lk
       replace r_t2 := zrb r_t2 kk
       replace r_t3 := zrb r_t3 kk
       replace r_t4 := zrb r_t4 kk
       have Bw5 := zbt HGS Bw4 kk
       clear Bw4 kk lk)
    | (have hgo := Bw5; clear hgo
       refine wpList_store_as rfl 61 (.tmp 5) (.tmp 8) rfl 16 (feF dP) arrFe r_t5 rfl rfl (by omega) (fun _ _ => rfl) (fun i hi => putN_whole hi) ?_
       intro w6 q gk
       replace r_t2 := gb_rowIs r_t2 gk n_t2_t5
       replace r_t3 := gb_rowIs r_t3 gk n_t3_t5
       replace r_t4 := gb_rowIs r_t4 gk n_t4_t5
       replace r_t5 := q
       have Bw6 := zbg HGS Bw5 gk l_t5
       clear Bw5 gk q)
    | (have hgo := Bw6; clear hgo
       go_at_call 80
       refine (refZero_any _).mono ?_
       rintro e w7 ⟨rfl, kk⟩
       replace r_t2 := zrb r_t2 kk
       replace r_t3 := zrb r_t3 kk
       replace r_t4 := zrb r_t4 kk
       replace r_t5 := zrb r_t5 kk
       have Bw7 := zbt HGS Bw6 kk
       clear Bw6 kk)
    | (have hgo := Bw7; clear hgo
       refine wpList_alloc_row rfl 63 rfl 48 (u64f fun _ => 0) zeroPt ?_
       intro b_t6 w8 lk r_t6 kk
       have n_t2_t6 := zrn r_t2 lk
       have n_t3_t6 := zrn r_t3 lk
       have n_t4_t6 := zrn r_t4 lk
       have n_t5_t6 := zrn r_t5 lk
       have l_t6 := zrl HGS Bw7 lk
       replace r_t2 := zrb r_t2 kk
       replace r_t3 := zrb r_t3 kk
       replace r_t4 := zrb r_t4 kk
       replace r_t5 := zrb r_t5 kk
       have Bw8 := zbt HGS Bw7 kk
       clear Bw7 kk lk)
    | (have hgo := Bw8; clear hgo
       refine wpList_store_as rfl 63 (.tmp 6) (.tmp 9) rfl 48 (ptF 0 1 1) arrP r_t6 rfl rfl (by omega) (fun j _ => ptF_one _ _ _ j) (fun i hi => putN_whole hi) ?_
       intro w9 q gk
       replace r_t2 := gb_rowIs r_t2 gk n_t2_t6
       replace r_t3 := gb_rowIs r_t3 gk n_t3_t6
       replace r_t4 := gb_rowIs r_t4 gk n_t4_t6
       replace r_t5 := gb_rowIs r_t5 gk n_t5_t6
       replace r_t6 := q
       have Bw9 := zbg HGS Bw8 gk l_t6
       clear Bw8 gk q))
  go_loopw [7] (fun tv wr => ∃ i x y z : Nat, i ≤ 256 ∧ pmulS dP (X, Y, Z) V i = (x, y, z) ∧ tv = .int .i64 (255 - (i : Int)) ∧ wr.rowIs b_t6 63 48 (ptF x y z) ∧ wr.rowIs b_t2 63 48 (ptF X Y Z) ∧ wr.rowIs b_t3 67 32 (bF 32 V) ∧ wr.rowIs b_t4 63 48 (u64f fun _ => 0) ∧ wr.rowIs b_t5 61 16 (feF dP) ∧ Below w.heap.size w wr) (fun tv _ => ((intOf tv) + 1).toNat)
  case atStart =>
    exact ⟨0, 0, 1, 1, Nat.zero_le _, rfl, rfl, r_t6, r_t2, r_t3, r_t4, r_t5, Bw9⟩
  case round =>
  clear r_t6 r_t2 r_t3 r_t4 r_t5 Bw9
  obtain ⟨i, x, y, z, hi, hcl, rfl, r_t6, r_t2, r_t3, r_t4, r_t5, B⟩ := hrel
  have hlt := pmulS_lt dP (X, Y, Z) V i
  rw [hcl] at hlt
  obtain ⟨hl1, hl2, hl3⟩ := hlt
  have Hx := Lib.hid hl1
  have Hy := Lib.hid hl2
  have Hz := Lib.hid hl3
  replace hcl := Lib.hid hcl
  clear hl1 hl2 hl3
  by_cases h256 : i < 256
  · obtain ⟨tt, htt⟩ := nat_var (255 - i)
    have htI : 255 - (i : Int) = (tt : Int) := by omega
    rw [htI]
    have HTI := Lib.hid (show (tt : Int) = 255 - (i : Int) from htI.symm)
    have ht0 : 0 ≤ (tt : Int) := by omega
    have htn : IntKind.i64.wrap ((tt : Int) - 1) = (tt : Int) - 1 := IntWalk.i64_in _ (by omega)
    have hbz : bitZ V (tt : Int) = V / 2 ^ tt % 2 := by
      unfold bitZ
      rw [if_pos ⟨by omega, by omega⟩, Int.toNat_natCast]
    have hbit := fun w => refScBit_any V (tt : Int) w (by omega) (by omega)
    rw [hbz] at hbit
    obtain ⟨b, hb⟩ := nat_var (V / 2 ^ tt % 2)
    have hb2 : b < 2 := by rw [hb]; exact Nat.mod_lt _ (by decide)
    rw [← hb] at hbit
    have HBIT := Lib.hid hbit
    have HBI : Hid (V / 2 ^ (255 - i) % 2 = b) := Lib.hid (by rw [← htt, hb])
    rcases hA1 : padd dP (x, y, z) (x, y, z) with ⟨x1, y1, z1⟩
    obtain ⟨hx1, hy1, hz1⟩ := padd_vlt hA1
    have Hx1 := Lib.hid hx1
    have Hy1 := Lib.hid hy1
    have Hz1 := Lib.hid hz1
    replace hA1 := Lib.hid hA1
    clear hx1 hy1 hz1 hbit hbz hb htt htI
    rcases (show b = 0 ∨ b = 1 by omega) with rfl | rfl
    · have Bw0 := B
      clear B
      go_wp2_with (first
        | (have hgo := Bw0; clear hgo
           refine wpList_load_as rfl 63 (.tmp 6) rfl 48 (ptF x y z) arrP r_t6 rfl (by omega) (fun i hi => by rw [Nat.zero_add]) ?_
           have Bw1 := Bw0
           clear Bw0)
        | (have hgo := Bw1; clear hgo
           refine wpList_load_as rfl 63 (.tmp 6) rfl 48 (ptF x y z) arrP r_t6 rfl (by omega) (fun i hi => by rw [Nat.zero_add]) ?_
           have Bw2 := Bw1
           clear Bw1)
        | (have hgo := Bw2; clear hgo
           refine wpList_load_as rfl 61 (.tmp 5) rfl 16 (feF dP) arrFe r_t5 rfl (by omega) (fun i hi => by rw [Nat.zero_add]) ?_
           have Bw3 := Bw2
           clear Bw2)
        | (have hgo := Bw3; clear hgo
           go_at_call 81
           refine (refPadd_v dP x y z x y z _ hA1.out dP_lt Hx.out Hy.out Hz.out Hx.out Hy.out Hz.out).mono ?_
           rintro e w13 ⟨rfl, kk⟩
           replace r_t6 := zrb r_t6 kk
           replace r_t2 := zrb r_t2 kk
           replace r_t3 := zrb r_t3 kk
           replace r_t4 := zrb r_t4 kk
           replace r_t5 := zrb r_t5 kk
           have Bw4 := zbt HGS Bw3 kk
           clear Bw3 kk)
        | (have hgo := Bw4; clear hgo
           refine wpList_store_as rfl 63 (.tmp 6) (.tmp 17) rfl 48 (ptF x1 y1 z1) arrP r_t6 rfl rfl (by omega) (fun j _ => ptF_one _ _ _ j) (fun i hi => putN_whole hi) ?_
           intro w14 q gk
           replace r_t2 := gb_rowIs r_t2 gk n_t2_t6
           replace r_t3 := gb_rowIs r_t3 gk n_t3_t6
           replace r_t4 := gb_rowIs r_t4 gk n_t4_t6
           replace r_t5 := gb_rowIs r_t5 gk n_t5_t6
           replace r_t6 := q
           have Bw5 := zbg HGS Bw4 gk l_t6
           clear Bw4 gk q)
        | (have hgo := Bw5; clear hgo
           refine wpList_load_as rfl 67 (.tmp 3) rfl 32 (bF 32 V) arrSc r_t3 rfl (by omega) (fun i hi => by rw [Nat.zero_add]) ?_
           have Bw6 := Bw5
           clear Bw5)
        | (have hgo := Bw6; clear hgo
           go_at_call 82
           refine (HBIT.out _).mono ?_
           rintro e w17 ⟨rfl, kk⟩
           replace r_t6 := zrb r_t6 kk
           replace r_t2 := zrb r_t2 kk
           replace r_t3 := zrb r_t3 kk
           replace r_t4 := zrb r_t4 kk
           replace r_t5 := zrb r_t5 kk
           have Bw7 := zbt HGS Bw6 kk
           clear Bw6 kk))
      go_roundw
      case rel =>
        exact ⟨i + 1, _, _, _, by omega, pmulS_nil hcl.out hA1.out HBI.out, by rw [HTI.out]; go_num, r_t6, r_t2, r_t3, r_t4, r_t5, Bw7⟩
      case measure => (simp [intOf]; try omega)
    · have Bw0 := B
      clear B
      rcases hA2 : padd dP (x1, y1, z1) (X, Y, Z) with ⟨x2, y2, z2⟩
      replace hA2 := Lib.hid hA2
      go_wp2_with (first
        | (have hgo := Bw0; clear hgo
           refine wpList_load_as rfl 63 (.tmp 6) rfl 48 (ptF x y z) arrP r_t6 rfl (by omega) (fun i hi => by rw [Nat.zero_add]) ?_
           have Bw1 := Bw0
           clear Bw0)
        | (have hgo := Bw1; clear hgo
           refine wpList_load_as rfl 63 (.tmp 6) rfl 48 (ptF x y z) arrP r_t6 rfl (by omega) (fun i hi => by rw [Nat.zero_add]) ?_
           have Bw2 := Bw1
           clear Bw1)
        | (have hgo := Bw2; clear hgo
           refine wpList_load_as rfl 61 (.tmp 5) rfl 16 (feF dP) arrFe r_t5 rfl (by omega) (fun i hi => by rw [Nat.zero_add]) ?_
           have Bw3 := Bw2
           clear Bw2)
        | (have hgo := Bw3; clear hgo
           go_at_call 81
           refine (refPadd_v dP x y z x y z _ hA1.out dP_lt Hx.out Hy.out Hz.out Hx.out Hy.out Hz.out).mono ?_
           rintro e w13 ⟨rfl, kk⟩
           replace r_t6 := zrb r_t6 kk
           replace r_t2 := zrb r_t2 kk
           replace r_t3 := zrb r_t3 kk
           replace r_t4 := zrb r_t4 kk
           replace r_t5 := zrb r_t5 kk
           have Bw4 := zbt HGS Bw3 kk
           clear Bw3 kk)
        | (have hgo := Bw4; clear hgo
           refine wpList_store_as rfl 63 (.tmp 6) (.tmp 17) rfl 48 (ptF x1 y1 z1) arrP r_t6 rfl rfl (by omega) (fun j _ => ptF_one _ _ _ j) (fun i hi => putN_whole hi) ?_
           intro w14 q gk
           replace r_t2 := gb_rowIs r_t2 gk n_t2_t6
           replace r_t3 := gb_rowIs r_t3 gk n_t3_t6
           replace r_t4 := gb_rowIs r_t4 gk n_t4_t6
           replace r_t5 := gb_rowIs r_t5 gk n_t5_t6
           replace r_t6 := q
           have Bw5 := zbg HGS Bw4 gk l_t6
           clear Bw4 gk q)
        | (have hgo := Bw5; clear hgo
           refine wpList_load_as rfl 67 (.tmp 3) rfl 32 (bF 32 V) arrSc r_t3 rfl (by omega) (fun i hi => by rw [Nat.zero_add]) ?_
           have Bw6 := Bw5
           clear Bw5)
        | (have hgo := Bw6; clear hgo
           go_at_call 82
           refine (HBIT.out _).mono ?_
           rintro e w17 ⟨rfl, kk⟩
           replace r_t6 := zrb r_t6 kk
           replace r_t2 := zrb r_t2 kk
           replace r_t3 := zrb r_t3 kk
           replace r_t4 := zrb r_t4 kk
           replace r_t5 := zrb r_t5 kk
           have Bw7 := zbt HGS Bw6 kk
           clear Bw6 kk)
        | (have hgo := Bw7; clear hgo
           refine wpList_load_as rfl 63 (.tmp 6) rfl 48 (ptF x1 y1 z1) arrP r_t6 rfl (by omega) (fun i hi => by rw [Nat.zero_add]) ?_
           have Bw8 := Bw7
           clear Bw7)
        | (have hgo := Bw8; clear hgo
           refine wpList_load_as rfl 63 (.tmp 2) rfl 48 (ptF X Y Z) arrP r_t2 rfl (by omega) (fun i hi => by rw [Nat.zero_add]) ?_
           have Bw9 := Bw8
           clear Bw8)
        | (have hgo := Bw9; clear hgo
           refine wpList_load_as rfl 61 (.tmp 5) rfl 16 (feF dP) arrFe r_t5 rfl (by omega) (fun i hi => by rw [Nat.zero_add]) ?_
           have Bw10 := Bw9
           clear Bw9)
        | (have hgo := Bw10; clear hgo
           go_at_call 81
           refine (refPadd_v dP x1 y1 z1 X Y Z _ hA2.out dP_lt Hx1.out Hy1.out Hz1.out HX.out HY.out HZ.out).mono ?_
           rintro e w22 ⟨rfl, kk⟩
           replace r_t6 := zrb r_t6 kk
           replace r_t2 := zrb r_t2 kk
           replace r_t3 := zrb r_t3 kk
           replace r_t4 := zrb r_t4 kk
           replace r_t5 := zrb r_t5 kk
           have Bw11 := zbt HGS Bw10 kk
           clear Bw10 kk)
        | (have hgo := Bw11; clear hgo
           refine wpList_store_as rfl 63 (.tmp 6) (.tmp 25) rfl 48 (ptF x2 y2 z2) arrP r_t6 rfl rfl (by omega) (fun j _ => ptF_one _ _ _ j) (fun i hi => putN_whole hi) ?_
           intro w23 q gk
           replace r_t2 := gb_rowIs r_t2 gk n_t2_t6
           replace r_t3 := gb_rowIs r_t3 gk n_t3_t6
           replace r_t4 := gb_rowIs r_t4 gk n_t4_t6
           replace r_t5 := gb_rowIs r_t5 gk n_t5_t6
           replace r_t6 := q
           have Bw12 := zbg HGS Bw11 gk l_t6
           clear Bw11 gk q))
      go_roundw
      case rel =>
        exact ⟨i + 1, _, _, _, by omega, pmulS_one hcl.out hA1.out hA2.out HBI.out, by rw [HTI.out]; go_num, r_t6, r_t2, r_t3, r_t4, r_t5, Bw12⟩
      case measure => (simp [intOf]; try omega)
  · obtain rfl : i = 256 := by omega
    have Bw0 := B
    clear B
    have HE : Hid (pmul dP (X, Y, Z) V = (x, y, z)) := hcl
    go_wp2_with (first
      | (have hgo := Bw0; clear hgo
         refine wpList_load_as rfl 63 (.tmp 6) rfl 48 (ptF x y z) arrP r_t6 rfl (by omega) (fun i hi => by rw [Nat.zero_add]) ?_
         have Bw1 := Bw0
         clear Bw0)
      | (have hgo := Bw1; clear hgo
         refine wpList_store_as rfl 63 (.tmp 4) (.tmp 26) rfl 48 (ptF x y z) arrP r_t4 rfl rfl (by omega) (fun j _ => ptF_one _ _ _ j) (fun i hi => putN_whole hi) ?_
         intro w502 q gk
         replace r_t6 := gb_rowIs r_t6 gk (Ne.symm n_t4_t6)
         replace r_t2 := gb_rowIs r_t2 gk n_t2_t4
         replace r_t3 := gb_rowIs r_t3 gk n_t3_t4
         replace r_t5 := gb_rowIs r_t5 gk (Ne.symm n_t4_t5)
         replace r_t4 := q
         have Bw2 := zbg HGS Bw1 gk l_t4
         clear Bw1 gk q))
    exact ret_cell_as _ rfl arrP r_t4 rfl (by omega) (fun _ _ => rfl) rfl ⟨by rw [HE.out], Bw2⟩
end Go.Proofs.YtonhpmaiagbheaaGreat

/- The document's points: their form. -/
set_option linter.unusedSimpArgs false
set_option linter.unusedVariables false
namespace Go.Proofs.YtonhpmaiagbheaaGreat
open Go.RowKit Go.Deep

/-- The form of the point told by x, y and z. -/
def encA (a : Nat × Nat × Nat) : Nat := mulP a.2.1 (invP a.2.2) + mulP a.1 (invP a.2.2) % 2 * top
theorem or_0 (q : Nat) (h : q < 128) : bits .or .u8 (q : Int) 0 = (q : Int) := by
  have g : ∀ x : Fin 128, bits .or .u8 ((x.val : Nat) : Int) 0 = ((x.val : Nat) : Int) := by decide +kernel
  exact g ⟨q, h⟩
theorem low_set (C : Nat) : (litB C 32).set 31 (UInt8.ofNat (C / 256 ^ 31)) = litB C 32 := litB_set C C 31 fun _ _ _ => rfl
theorem encA_aff {P : Nat × Nat} (hP : onE P) {a : Nat × Nat × Nat} (ha : a.2.2 < p25) (h : RepN P a) : encA a = encN P := by
  obtain ⟨h1, h2⟩ := repN_aff hP ha h
  unfold encA encN
  rw [h1, h2]
set_option maxHeartbeats 4000000 in
set_option maxRecDepth 10000 in
theorem refEncode_any (X Y Z : Nat) (w : World) (HX : X < p25) (HY : Y < p25) (HZ : Z < p25) : Calls Tryz.prog 34 #[.agg (arrOf 48 (ptF X Y Z))] w fun e w' => ∃ v, e = .returned v ∧ Owns w' w.heap.size v (litB (encA (X, Y, Z)) 32) ∧ Below w.heap.size w w' := by
  have Bw0 := Below.refl w.heap.size w
  have HGS : Hid (∀ wq : World, Below w.heap.size w wq → w.heap.size ≤ wq.heap.size) := Lib.hid fun wq h => h.size
  replace HX := Lib.hid HX
  replace HY := Lib.hid HY
  replace HZ := Lib.hid HZ
  obtain ⟨A, hA⟩ := nat_var (mulP X (invP Z))
  obtain ⟨C, hC⟩ := nat_var (mulP Y (invP Z))
  have HC : Hid (C < p25) := Lib.hid (by rw [hC]; exact mulP_lt _ _)
  unfold encA
  dsimp only
  rw [← hA, ← hC]
  have HMX := Lib.hid fun w => refMul5_any X (invP Z) w HX.out (invP_lt _)
  have HMY := Lib.hid fun w => refMul5_any Y (invP Z) w HY.out (invP_lt _)
  rw [← hA] at HMX
  rw [← hC] at HMY
  clear hA hC
  go_enter Tryz.func34, Tryz.ntmps34
  go_wp2_with (first
    | (have hgo := Bw0; clear hgo
       refine wpList_box_row rfl 63 (.tmp 0) rfl 48 (ptF X Y Z) rfl ?_
       intro b_t1 w1 lk r_t1 kk
       have l_t1 := zrl HGS Bw0 lk
       have Bw1 := zbt HGS Bw0 kk
       clear Bw0 kk lk)
    | (have hgo := Bw1; clear hgo
       refine wpList_load_as rfl 61 (.tmp 6) rfl 16 (feF Z) arrFe r_t1 rfl (by omega) (fun i hi => ptF_z _ _ _ i hi) ?_
       have Bw2 := Bw1
       clear Bw1)
    | (have hgo := Bw2; clear hgo
       go_at_call 77
       refine (refInv5_any Z _ HZ.out).mono ?_
       rintro e w5 ⟨rfl, kk⟩
       replace r_t1 := zrb r_t1 kk
       have Bw3 := zbt HGS Bw2 kk
       clear Bw2 kk)
    | (have hgo := Bw3; clear hgo
       refine wpList_alloc_row rfl 61 rfl 16 (u64f fun _ => 0) zeroFe ?_
       intro b_t3 w6 lk r_t3 kk
       have n_t1_t3 := zrn r_t1 lk
       have l_t3 := zrl HGS Bw3 lk
       replace r_t1 := zrb r_t1 kk
       have Bw4 := zbt HGS Bw3 kk
       clear Bw3 kk lk)
    | (have hgo := Bw4; clear hgo
       refine wpList_store_as rfl 61 (.tmp 3) (.tmp 8) rfl 16 (feF (invP Z)) arrFe r_t3 rfl rfl (by omega) (fun _ _ => rfl) (fun i hi => putN_whole hi) ?_
       intro w7 q gk
       replace r_t1 := gb_rowIs r_t1 gk n_t1_t3
       replace r_t3 := q
       have Bw5 := zbg HGS Bw4 gk l_t3
       clear Bw4 gk q)
    | (have hgo := Bw5; clear hgo
       refine wpList_load_as rfl 61 (.tmp 9) rfl 16 (feF X) arrFe r_t1 rfl (by omega) (fun i hi => ptF_x _ _ _ i hi) ?_
       have Bw6 := Bw5
       clear Bw5)
    | (have hgo := Bw6; clear hgo
       refine wpList_load_as rfl 61 (.tmp 3) rfl 16 (feF (invP Z)) arrFe r_t3 rfl (by omega) (fun i hi => by rw [Nat.zero_add]) ?_
       have Bw7 := Bw6
       clear Bw6)
    | (have hgo := Bw7; clear hgo
       go_at_call 76
       refine (HMX.out _).mono ?_
       rintro e w11 ⟨rfl, kk⟩
       replace r_t1 := zrb r_t1 kk
       replace r_t3 := zrb r_t3 kk
       have Bw8 := zbt HGS Bw7 kk
       clear Bw7 kk)
    | (have hgo := Bw8; clear hgo
       refine wpList_alloc_row rfl 61 rfl 16 (u64f fun _ => 0) zeroFe ?_
       intro b_t4 w12 lk r_t4 kk
       have n_t1_t4 := zrn r_t1 lk
       have n_t3_t4 := zrn r_t3 lk
       have l_t4 := zrl HGS Bw8 lk
       replace r_t1 := zrb r_t1 kk
       replace r_t3 := zrb r_t3 kk
       have Bw9 := zbt HGS Bw8 kk
       clear Bw8 kk lk)
    | (have hgo := Bw9; clear hgo
       refine wpList_store_as rfl 61 (.tmp 4) (.tmp 12) rfl 16 (feF A) arrFe r_t4 rfl rfl (by omega) (fun _ _ => rfl) (fun i hi => putN_whole hi) ?_
       intro w13 q gk
       replace r_t1 := gb_rowIs r_t1 gk n_t1_t4
       replace r_t3 := gb_rowIs r_t3 gk n_t3_t4
       replace r_t4 := q
       have Bw10 := zbg HGS Bw9 gk l_t4
       clear Bw9 gk q)
    | (have hgo := Bw10; clear hgo
       refine wpList_load_as rfl 61 (.tmp 13) rfl 16 (feF Y) arrFe r_t1 rfl (by omega) (fun i hi => ptF_y _ _ _ i hi) ?_
       have Bw11 := Bw10
       clear Bw10)
    | (have hgo := Bw11; clear hgo
       refine wpList_load_as rfl 61 (.tmp 3) rfl 16 (feF (invP Z)) arrFe r_t3 rfl (by omega) (fun i hi => by rw [Nat.zero_add]) ?_
       have Bw12 := Bw11
       clear Bw11)
    | (have hgo := Bw12; clear hgo
       go_at_call 76
       refine (HMY.out _).mono ?_
       rintro e w17 ⟨rfl, kk⟩
       replace r_t1 := zrb r_t1 kk
       replace r_t3 := zrb r_t3 kk
       replace r_t4 := zrb r_t4 kk
       have Bw13 := zbt HGS Bw12 kk
       clear Bw12 kk)
    | (have hgo := Bw13; clear hgo
       go_at_call 78
       refine (refBytes_any C _).mono ?_
       rintro e w9 ⟨v9, rfl, o9, kk⟩
       replace r_t1 := World.rowIs.of_block r_t1 (kk.block _ (World.rowIs.lt r_t1))
       replace r_t3 := World.rowIs.of_block r_t3 (kk.block _ (World.rowIs.lt r_t3))
       replace r_t4 := World.rowIs.of_block r_t4 (kk.block _ (World.rowIs.lt r_t4))
       have o5 := o9.lower (HGS.out _ Bw13)
       have Bw14 := Bw13.trans (kk.mono (HGS.out _ Bw13))
       clear Bw13 kk o9))
  have h31 : 31 < (litB C 32).length := by rw [litB_length]; decide
  obtain ⟨g, cap, hv, hg, hgs, hcell, hfr⟩ := o5.open_cons (by rw [litB_length]; decide)
  rw [litB_length] at hv
  subst hv
  have hc := hcell 31 h31
  have hf := hfr 31
  rw [litB_at, high_old C HC.out] at hc
  have hql := high_lt C HC.out
  obtain ⟨q, hq⟩ := nat_var (C / 256 ^ 31)
  rw [← hq] at hc hql
  have hdc := World.rowIs.cell r_t4 (i := 0) (by omega)
  have hpar : dig A 0 % 2 = A % 2 := by rw [dig_zero]; omega
  have hd0 := dig_lt A 0
  obtain ⟨d, hd⟩ := nat_var (dig A 0)
  rw [← hd] at hpar hd0
  have hm := mask64 d 1 (by omega) (by decide) 1 rfl
  rw [show (2 : Nat) ^ 1 = 2 from rfl, hpar] at hm
  unfold feF u64f at hdc
  rw [← hd] at hdc
  have HQ := Lib.hid hq
  rcases (show A % 2 = 0 ∨ A % 2 = 1 by omega) with hA2 | hA2
  · have HA2 := Lib.hid hA2
    rw [hA2] at hm
    have hor := or_0 q hql
    have hs := Owns.set (j := 31) o5 (by rw [litB_length]) (UInt8.ofNat (C / 256 ^ 31))
    rw [low_set, high_old C HC.out, ← hq] at hs
    have HS := Lib.hid hs
    have HB := Lib.hid Bw14
    clear hq hd hpar hA2 hs hd0 hcell hfr Bw14 r_t1 r_t3
    go_region
    go_wp2
    go_ret
    exact ⟨_, rfl, by rw [HA2.out, Nat.zero_mul, Nat.add_zero]; exact HS.out.drew, (HB.out.setCell (p := ⟨g, 31, none⟩) hg (.int .u8 (q : Int))).drew⟩
  · have HA2 := Lib.hid hA2
    rw [hA2] at hm
    have hor := or_128 q hql
    have hs := Owns.set (j := 31) o5 (by rw [litB_length]) (UInt8.ofNat ((C + top) / 256 ^ 31))
    rw [high_set, high_new C HC.out, ← hq] at hs
    have HS := Lib.hid hs
    have HB := Lib.hid Bw14
    clear hq hd hpar hA2 hs hd0 hcell hfr Bw14 r_t1 r_t3
    go_region
    go_wp2
    go_ret
    exact ⟨_, rfl, by rw [HA2.out, Nat.one_mul]; exact HS.out.drew, (HB.out.setCell (p := ⟨g, 31, none⟩) hg (.int .u8 ((q + 128 : Nat) : Int))).drew⟩
end Go.Proofs.YtonhpmaiagbheaaGreat
