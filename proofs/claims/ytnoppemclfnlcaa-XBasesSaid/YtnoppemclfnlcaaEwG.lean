/- The program's numbers below p: powers, Inv. -/
import Derived.Test.YtnoppemclfnlcaaEwF
set_option linter.unusedSimpArgs false
set_option linter.unusedVariables false
namespace Go.Proofs.Ytnoppemclfnlcaa
open Go.RowKit Go.Deep

theorem wpList_lesser {ops : Array Oper} {rest : List Oper} {o : Oper} {a : Act} {w : World} {Q : Exit → Act → World → Prop} (hgd : o.guard = none) (x y : Operand) {ts : Array TypeId} (ho : o.op = .call { callee := .builtin .min, args := #[x, y], argTypes := ts }) {k : IntKind} {i j m : Int}
    (hx : a.eval x = .int k i) (hy : a.eval y = .int k j) (hm : m = if j < i then j else i) (h : wpList Try.prog ops Q rest (a.put o.dst (.int k m)) w) : wpList Try.prog ops Q (o :: rest) a w := by
  refine wpList_value hgd (.int k m) ?_ h
  subst hm
  simp [execOp, ho, resolve, invoke, builtin, hx, hy, run_min_int2, Result.andThen]
def mulV : Value := .func (.func 44) #[] #[]
set_option maxHeartbeats 4000000 in
theorem often_any (A k c N : Nat) (kv cv : Int) (w : World) (hkv : kv = (k : Int) + 1) (hcv : cv = (c : Int)) (hA : A < p25) (hk0 : 1 ≤ k) (hk1 : k ≤ 1000) (hc0 : 0 < c) (hc1 : c < 18446744073709551616) (hN : N / 2 ^ k = 1)
    (hbit : ∀ i, i < k → (18446744073709551616 - c) / 2 ^ (min i 63) % 2 = N / 2 ^ i % 2) :
    Calls Try.prog 52 #[.func (.func 44) #[] #[], .agg (arrOf 4 (ewF A)), .int .i64 kv, .int .u64 cv] w fun e w' => e = .returned (.agg (arrOf 4 (ewF (A ^ N % p25)))) ∧ Below w.heap.size w w' := by
  subst hkv hcv
  obtain ⟨w3, hw3, hrA, hrR, hrX, hbel, hsz⟩ := rowsW3 w (ewF A) (u64f fun _ => 0) 42
  have hrA0 := (rowIs_arr w 4 (ewF A) 42).alloc (.cells (arrOf 4 (u64f fun _ => 0)) 42)
  have HBIT := Lib.hid hbit
  have HA := Lib.hid hA
  have hone : A = A ^ (N / 2 ^ k) % p25 := by rw [hN, Nat.pow_one, Nat.mod_eq_of_lt hA]
  have HONE := Lib.hid hone
  have hwk : IntKind.i64.wrap ((k : Int) + 1 - 2) = (k : Int) - 1 := by rw [IntWalk.i64_in _ (by omega)]; omega
  have hneg : IntKind.u64.wrap (-(c : Int)) = ((18446744073709551616 - c : Nat) : Int) := by rw [IntKind.wrap_u64]; omega
  have hncl : 18446744073709551616 - c < 18446744073709551616 := by omega
  generalize hnc : 18446744073709551616 - c = nc at *
  have HGS : Hid (∀ wq : World, Below w.heap.size w wq → w.heap.size ≤ wq.heap.size) := Lib.hid fun wq h => h.size
  clear hsz hone hN hbit hnc hA hc0 hc1
  subst hw3
  go_enter Try.func52, Try.ntmps52
  go_wp2_with (first
    | (refine wpList_alloc_arr rfl 42 rfl (arrOf 4 (u64f fun _ => 0)) zeroE ?_; try simp only [World.size_alloc])
    | (refine wpList_load_arr rfl 42 (.tmp 5) rfl 4 arrE hrA0 rfl (by omega) ?_; simp only [Nat.zero_add])
    | (refine wpList_store_arr rfl 42 (.tmp 9) (.tmp 11) rfl 4 arrE hrX rfl rfl (by omega) (fun _ _ => rfl) ?_; intro w9 hr9 hg9 hs9
       have hX9 : w9.rowIs (w.heap.size + 1 + 1) 42 4 (ewF (A ^ (N / 2 ^ k) % p25)) := hr9.congr fun i hi => by unfold putN; rw [if_pos (by omega), Nat.sub_zero, ← HONE.out]
       have hA9 := gb_rowIs hrA hg9 (by omega)
       have hR9 := gb_rowIs hrR hg9 (by omega)
       have hB9 := hbel.grown hg9 (HGS.out _ hbel) (by intro k hk; cases hk; omega)
       clear hrA hrR hrX hbel hr9 hg9 hs9))
  generalize hg0 : w.heap.size = g0 at *
  generalize hg2 : g0 + 1 + 1 = g2 at *
  generalize hg1 : g0 + 1 = g1 at *
  have n02 : g0 ≠ g2 := by omega
  have n12 : g1 ≠ g2 := by omega
  have l1 : g0 ≤ g1 := by omega
  have l2 : g0 ≤ g2 := by omega
  have HG := Lib.hid hg0
  clear hg0 hg1 hg2 hrA0
  go_loopw [10] (fun ii wr => ∃ m : Nat, m ≤ k ∧ ii = .int .i64 ((m : Int) - 1) ∧ wr.rowIs g2 42 4 (ewF (A ^ (N / 2 ^ m) % p25)) ∧ wr.rowIs g0 42 4 (ewF A) ∧ wr.rowIs g1 42 4 (u64f fun _ => 0) ∧ Below g0 w wr) (fun ii _ => ((intOf ii) + 1).toNat)
  case atStart => exact ⟨k, Nat.le_refl _, rfl, hX9, hA9, hR9, hB9⟩
  case round =>
    clear hX9 hA9 hR9 hB9
    obtain ⟨m, hm, rfl, hX, hA, hR, hbel⟩ := hrel
    cases m with
    | zero =>
      rw [Nat.pow_zero, Nat.div_one] at hX
      go_wp2_with (first
        | (refine wpList_load_arr rfl 42 (.tmp 9) rfl 4 arrE hX rfl (by omega) ?_; simp only [Nat.zero_add])
        | (refine wpList_store_arr rfl 42 (.tmp 8) (.tmp 33) rfl 4 arrE hR rfl rfl (by omega) (fun _ _ => rfl) ?_; intro w9 hr9 hg9 hs9))
      refine ret_cell_arr rfl arrE hr9 rfl (by omega) rfl ⟨?_, by rw [HG.out]; exact hbel.grown hg9 (HGS.out _ hbel) (by intro k hk; cases hk; exact l1)⟩
      rw [agg_putW]
    | succ i =>
      rw [show ((i + 1 : Nat) : Int) - 1 = (i : Int) by omega]
      have hiI : 0 ≤ (i : Int) := by omega
      have hik : i < k := by omega
      obtain ⟨t, ht⟩ := nat_var (N / 2 ^ (i + 1))
      rw [← ht] at hX
      have hb := HBIT.out i hik
      have hstep : N / 2 ^ i = 2 * t + N / 2 ^ i % 2 := by
        rw [ht, Nat.pow_succ, ← Nat.div_div_eq_div_mul]
        omega
      rw [← hb] at hstep
      obtain ⟨mm, hmm⟩ := nat_var (min i 63)
      rw [← hmm] at hb hstep
      have hm63 : (mm : Int) ≤ 63 := by omega
      have hm64 : (mm : Int) < 64 := by omega
      have hm0 : 0 ≤ (mm : Int) := by omega
      have HMM : Hid ((mm : Int) = if (63 : Int) < (i : Int) then 63 else (i : Int)) := Lib.hid (by split <;> omega)
      have hdiv : (nc : Int) / 2 ^ mm = ((nc / 2 ^ mm : Nat) : Int) := by simp
      have hq := mask64 (nc / 2 ^ mm) 1 (Nat.lt_of_le_of_lt (Nat.div_le_self _ _) hncl) (by decide) 1 rfl
      rw [← hdiv, Nat.pow_one] at hq
      have hbl : nc / 2 ^ mm % 2 < 2 := Nat.mod_lt _ (by decide)
      have hX2 := Lib.hid (pow_two_mod A t)
      have HSTEP := Lib.hid hstep
      clear hstep hdiv ht hb hmm
      generalize nc / 2 ^ mm % 2 = bt at *
      have hw1 : IntKind.i64.wrap ((i : Int) - 1) = (i : Int) - 1 := by rw [IntWalk.i64_in _ (by omega)]
      by_cases hb1 : bt = 1
      · subst hb1
        have hX3 := Lib.hid (pow_one_mod A (2 * t))
        rw [show ((1 : Nat) : Int) = 1 from rfl] at hq
        go_wp2_with (first
          | (refine wpList_load_arr rfl 42 (.tmp 9) rfl 4 arrE hX rfl (by omega) ?_; simp only [Nat.zero_add])
          | (refine wpList_load_arr rfl 42 (.tmp 9) rfl 4 arrE hX7 rfl (by omega) ?_; simp only [Nat.zero_add])
          | (refine wpList_load_arr rfl 42 (.tmp 5) rfl 4 arrE hA7 rfl (by omega) ?_; simp only [Nat.zero_add])
          | (refine wpList_lesser rfl (.tmp 24) (.const (.int .i64 63)) rfl (m := (mm : Int)) rfl rfl HMM.out ?_)
          | (go_at_call 44
             first
               | (have hgo := hX.lt; refine (mul_any _ _ _ (mod_p_lt (A ^ t)) (mod_p_lt (A ^ t))).mono ?_; rintro e w5 ⟨rfl, hb5⟩; unfold mulP; rw [hX2.out]
                  have hX5 := hX.of_block (hb5.block _ hX.lt)
                  have hA5 := hA.of_block (hb5.block _ hA.lt)
                  have hR5 := hR.of_block (hb5.block _ hR.lt)
                  have hB5 := hbel.trans (hb5.mono (HGS.out _ hbel))
                  clear hX hA hR hbel hb5)
               | (have hgo2 := hX7.lt; refine (mul_any _ _ _ (mod_p_lt (A ^ (2 * t))) HA.out).mono ?_; rintro e w8 ⟨rfl, hb8⟩; unfold mulP; rw [hX3.out]
                  have hX8 := hX7.of_block (hb8.block _ hX7.lt)
                  have hA8 := hA7.of_block (hb8.block _ hA7.lt)
                  have hR8 := hR7.of_block (hb8.block _ hR7.lt)
                  have hB8 := hB7.trans (hb8.mono (HGS.out _ hB7))
                  clear hX7 hA7 hR7 hB7 hb8))
          | (refine wpList_store_arr rfl 42 (.tmp 9) (.tmp 21) rfl 4 arrE hX5 rfl rfl (by omega) (fun _ _ => rfl) ?_; intro w7 hr7 hg7 hs7
             have hX7 : w7.rowIs g2 42 4 (ewF (A ^ (2 * t) % p25)) := hr7.congr fun i hi => by unfold putN; rw [if_pos (by omega), Nat.sub_zero]
             have hA7 := gb_rowIs hA5 hg7 n02
             have hR7 := gb_rowIs hR5 hg7 n12
             have hB7 := hB5.grown hg7 (HGS.out _ hB5) (by intro k hk; cases hk; exact l2)
             clear hX5 hA5 hR5 hB5 hr7 hg7 hs7)
          | (refine wpList_store_arr rfl 42 (.tmp 9) (.tmp 32) rfl 4 arrE hX8 rfl rfl (by omega) (fun _ _ => rfl) ?_; intro w9 hr9 hg9 hs9
             have hX9 : w9.rowIs g2 42 4 (ewF (A ^ (2 * t + 1) % p25)) := hr9.congr fun i hi => by unfold putN; rw [if_pos (by omega), Nat.sub_zero]
             have hA9 := gb_rowIs hA8 hg9 n02
             have hR9 := gb_rowIs hR8 hg9 n12
             have hB9 := hB8.grown hg9 (HGS.out _ hB8) (by intro k hk; cases hk; exact l2)
             clear hX8 hA8 hR8 hB8 hr9 hg9 hs9))
        go_roundw
        case rel => exact ⟨i, by omega, by first | rfl | go_num, by rw [HSTEP.out]; exact hX9, hA9, hR9, hB9⟩
        case measure => simp [intOf]
      · have hb0 : bt = 0 := by omega
        subst hb0
        rw [show ((0 : Nat) : Int) = 0 from rfl] at hq
        go_wp2_with (first
          | (refine wpList_load_arr rfl 42 (.tmp 9) rfl 4 arrE hX rfl (by omega) ?_; simp only [Nat.zero_add])
          | (refine wpList_lesser rfl (.tmp 24) (.const (.int .i64 63)) rfl (m := (mm : Int)) rfl rfl HMM.out ?_)
          | (go_at_call 44
             have hgo := hX.lt; refine (mul_any _ _ _ (mod_p_lt (A ^ t)) (mod_p_lt (A ^ t))).mono ?_; rintro e w5 ⟨rfl, hb5⟩; unfold mulP; rw [hX2.out]
             have hX5 := hX.of_block (hb5.block _ hX.lt)
             have hA5 := hA.of_block (hb5.block _ hA.lt)
             have hR5 := hR.of_block (hb5.block _ hR.lt)
             have hB5 := hbel.trans (hb5.mono (HGS.out _ hbel))
             clear hX hA hR hbel hb5)
          | (refine wpList_store_arr rfl 42 (.tmp 9) (.tmp 21) rfl 4 arrE hX5 rfl rfl (by omega) (fun _ _ => rfl) ?_; intro w7 hr7 hg7 hs7
             have hX7 : w7.rowIs g2 42 4 (ewF (A ^ (2 * t) % p25)) := hr7.congr fun i hi => by unfold putN; rw [if_pos (by omega), Nat.sub_zero]
             have hA7 := gb_rowIs hA5 hg7 n02
             have hR7 := gb_rowIs hR5 hg7 n12
             have hB7 := hB5.grown hg7 (HGS.out _ hB5) (by intro k hk; cases hk; exact l2)
             clear hX5 hA5 hR5 hB5 hr7 hg7 hs7))
        go_roundw
        case rel => exact ⟨i, by omega, by first | rfl | go_num, by rw [HSTEP.out]; exact hX7, hA7, hR7, hB7⟩
        case measure => simp [intOf]
end Go.Proofs.Ytnoppemclfnlcaa
