/- FieldSmalls, walked. -/
import Derived.Test.YthapdohblphlgaaEwL
namespace Go.Proofs.Ythapdohblphlgaa
open Go.RowKit Go.Deep

theorem small_p25 {x : Nat} (h : x < 18446744073709551616) : x < p25 := Nat.lt_trans h (by decide +kernel)
theorem add_small {p q : Nat} (hp : p < 2147483648) (hq : q < 2147483648) : addP p q = p + q := Nat.mod_eq_of_lt (small_p25 (by omega))
theorem mul_bound {p q : Nat} (hp : p < 2147483648) (hq : q < 2147483648) : p * q < 18446744073709551616 := by
  have h : p * q ≤ 2147483647 * 2147483647 := Nat.mul_le_mul (by omega) (by omega)
  omega
theorem mul_small {p q : Nat} (hp : p < 2147483648) (hq : q < 2147483648) : mulP p q = p * q := Nat.mod_eq_of_lt (small_p25 (mul_bound hp hq))
theorem sub_key (P a b : Nat) (h : b ≤ a) (ha : a < P) : (a + (P - b % P) % P) % P = a - b := by
  rw [Nat.mod_eq_of_lt (show b < P by omega)]
  by_cases h0 : b = 0
  · subst h0
    rw [Nat.sub_zero, Nat.mod_self, Nat.add_zero, Nat.mod_eq_of_lt ha, Nat.sub_zero]
  · rw [Nat.mod_eq_of_lt (show P - b < P by omega), show a + (P - b) = (a - b) + P by omega, Nat.add_mod_right, Nat.mod_eq_of_lt (by omega)]
theorem sub_key2 (P a b : Nat) (h : a < b) (hb : b < P) : (a + (P - b % P) % P) % P = (0 + (P - (b - a) % P) % P) % P := by
  rw [Nat.mod_eq_of_lt hb, Nat.mod_eq_of_lt (show b - a < P by omega), Nat.mod_eq_of_lt (show P - b < P by omega), Nat.mod_eq_of_lt (show P - (b - a) < P by omega), Nat.mod_eq_of_lt (show a + (P - b) < P by omega), Nat.mod_eq_of_lt (show 0 + (P - (b - a)) < P by omega)]
  omega
theorem sub_small {a b : Nat} (h : b ≤ a) (ha : a < p25) : subP p25 a b = a - b := sub_key p25 a b h ha
theorem sub_less {a b : Nat} (h : a < b) (hb : b < p25) : subP p25 a b = oppP (b - a) := sub_key2 p25 a b h hb
theorem exec_u64_eql {w : World} (ρ : Operand → Value) (x y : Operand) (t : TypeId) {a b : Nat} {o : Bool} (hx : ρ x = .int .u64 (a : Int)) (hy : ρ y = .int .u64 (b : Int)) (ho : o = decide (a = b)) :
    (execOp ρ (mkOp (.binOp .eql 23 x y 23) t)).run Try.prog w = .ok (.value (.bool o)) w := by
  subst ho
  by_cases h : a = b
  · subst h
    rw [decide_eq_true rfl]
    simp only [execOp, mkOp, hx, hy]
    go_simp
    all_goals simp
  · rw [decide_eq_false h]
    have h2 : ¬ (a : Int) = (b : Int) := by omega
    simp only [execOp, mkOp, hx, hy]
    go_simp
    all_goals simp [h, h2]
theorem exec_bool_eql {w : World} (ρ : Operand → Value) (x y : Operand) (t : TypeId) {o : Bool} (hx : ρ x = .bool o) (hy : ρ y = .bool o) :
    (execOp ρ (mkOp (.binOp .eql 4 x y 4) t)).run Try.prog w = .ok (.value (.bool true)) w := by
  cases o
  · simp only [execOp, mkOp, hx, hy]
    go_simp
  · simp only [execOp, mkOp, hx, hy]
    go_simp
theorem wpList_u64_eql {ops : Array Oper} {Q : Exit → Act → World → Prop} {a : Act} {w : World} {rest : List Oper} {o : Oper} (x y : Operand) (ho : o.op = .binOp .eql 23 x y 23) (hw : Region.wanted o (yielded ops a.tmps) = true) {m n : Nat} {r : Bool}
    (hx : a.eval x = .int .u64 (m : Int)) (hy : a.eval y = .int .u64 (n : Int)) (hr : r = decide (m = n)) (h : wpList Try.prog ops Q rest (a.put o.dst (.bool r)) w) : wpList Try.prog ops Q (o :: rest) a w :=
  wpList_value_given hw (.bool r) (by rw [exec_mkOp, ho]; exact exec_u64_eql _ x y _ hx hy hr) h
theorem wpList_bool_eql {ops : Array Oper} {Q : Exit → Act → World → Prop} {a : Act} {w : World} {rest : List Oper} {o : Oper} (x y : Operand) (ho : o.op = .binOp .eql 4 x y 4) (hw : Region.wanted o (yielded ops a.tmps) = true) {r : Bool}
    (hx : a.eval x = .bool r) (hy : a.eval y = .bool r) (h : wpList Try.prog ops Q rest (a.put o.dst (.bool true)) w) : wpList Try.prog ops Q (o :: rest) a w :=
  wpList_value_given hw (.bool true) (by rw [exec_mkOp, ho]; exact exec_bool_eql _ x y _ hx hy) h
theorem same5_is (A C : Nat) (o : Bool) (w : World) (hA : A < p25) (hC : C < p25) (h : o = decide (A = C)) : Calls Try.prog 28 #[.agg (arrOf 4 (ewF A)), .agg (arrOf 4 (ewF C))] w fun e w' => e = .returned (.bool o) ∧ Below w.heap.size w w' := by
  have g := same_any A C w hA hC
  rwa [← h] at g
theorem odd5_is (A : Nat) (o : Bool) (w : World) (h : o = decide (A % 2 = 1)) : Calls Try.prog 29 #[.agg (arrOf 4 (ewF A))] w fun e w' => e = .returned (.bool o) ∧ Below w.heap.size w w' := by
  have g := odd_any A w
  rwa [← h] at g

set_option maxHeartbeats 16000000 in
set_option maxRecDepth 100000 in
theorem law_fieldSmalls (w : World) (x0 : Int) (w0 : (Lit.int .u64 x0).wf = true) (x1 : Int) (w1 : (Lit.int .u64 x1).wf = true) : Calls Try.prog 8 #[.int .u64 x0, .int .u64 x1] w fun e w' => e = .returned (.bool true) ∧ Below w.heap.size w w' := by
  obtain ⟨hx0, hy0⟩ := bd_u64 w0
  clear w0
  obtain ⟨X, rfl⟩ := Int.eq_ofNat_of_zero_le hx0
  have hm0 := mask64 X 31 (by omega) (by decide) 2147483647 rfl
  obtain ⟨p, hv0⟩ := nat_var (X % 2 ^ 31)
  rw [← hv0] at hm0
  have Kp : Hid (p < 2147483648) := Lib.hid (by omega)
  have Lp : Hid (p < 18446744073709551616) := Lib.hid (by omega)
  have Hp : Hid (p < p25) := Lib.hid (small_p25 Lp.out)
  clear hv0 hx0 hy0
  obtain ⟨hx1, hy1⟩ := bd_u64 w1
  clear w1
  obtain ⟨Y, rfl⟩ := Int.eq_ofNat_of_zero_le hx1
  have hm1 := mask64 Y 31 (by omega) (by decide) 2147483647 rfl
  obtain ⟨q, hv1⟩ := nat_var (Y % 2 ^ 31)
  rw [← hv1] at hm1
  have Kq : Hid (q < 2147483648) := Lib.hid (by omega)
  have Lq : Hid (q < 18446744073709551616) := Lib.hid (by omega)
  have Hq : Hid (q < p25) := Lib.hid (small_p25 Lq.out)
  clear hv1 hx1 hy1
  obtain ⟨s, hs⟩ := nat_var ((q + 18446744073709551616 - p) % 18446744073709551616)
  have hw1 : IntKind.u64.wrap ((q : Int) - (p : Int)) = (s : Int) := by
    have h1 := Kp.out
    have h2 := Kq.out
    rw [IntKind.wrap_u64]
    omega
  have Ls : Hid (s < 18446744073709551616) := Lib.hid (by omega)
  have Hs : Hid (s < p25) := Lib.hid (small_p25 Ls.out)
  obtain ⟨sm, hsm⟩ := nat_var (p + q)
  have Lsm : Hid (sm < 18446744073709551616) := Lib.hid (by have h1 := Kp.out; have h2 := Kq.out; omega)
  have Hsm : Hid (sm < p25) := Lib.hid (small_p25 Lsm.out)
  have hw2 : IntKind.u64.wrap ((p : Int) + (q : Int)) = (sm : Int) := by
    rw [← Int.natCast_add, ← hsm, wrap_nat _ Lsm.out]
  have SM : Hid (addP p q = sm) := Lib.hid (by rw [add_small Kp.out Kq.out, hsm])
  obtain ⟨pr, hpr⟩ := nat_var (p * q)
  have Lpr : Hid (pr < 18446744073709551616) := Lib.hid (by rw [hpr]; exact mul_bound Kp.out Kq.out)
  have Hpr : Hid (pr < p25) := Lib.hid (small_p25 Lpr.out)
  have hw3 : IntKind.u64.wrap ((p : Int) * (q : Int)) = (pr : Int) := by
    rw [← Int.natCast_mul, ← hpr, wrap_nat _ Lpr.out]
  have PR : Hid (mulP p q = pr) := Lib.hid (by rw [mul_small Kp.out Kq.out, hpr])
  obtain ⟨o1, ho1⟩ : ∃ o1, o1 = decide (p % 2 = 1) := ⟨_, rfl⟩
  obtain ⟨o2, ho2⟩ : ∃ o2, o2 = decide (p = q) := ⟨_, rfl⟩
  have O1 := Lib.hid ho1
  have O2 := Lib.hid ho2
  obtain ⟨r, hr⟩ := nat_var (p % 2)
  have hrem : (p : Int) % 2 = (r : Int) := by omega
  have hrem2 : IntKind.u64.wrap ((p : Int).tmod 2) = (r : Int) := by rw [Int.tmod_eq_emod_of_nonneg (by omega), hrem, wrap_nat _ (by omega)]
  have hrem3 : (p : Int).tmod 2 = (r : Int) := by rw [Int.tmod_eq_emod_of_nonneg (by omega), hrem]
  have hrem4 : IntKind.u64.wrap (r : Int) = (r : Int) := wrap_nat _ (by omega)
  rw [← hr] at ho1
  have O3 := Lib.hid ho1
  have HSS := Lib.hid hs
  have B0 := Below.refl w.heap.size w
  have HGS : Hid (∀ wq : World, Below w.heap.size w wq → w.heap.size ≤ wq.heap.size) := Lib.hid fun wq h => h.size
  clear hs hsm hpr ho1 ho2 hr
  go_enter Try.func8, Try.ntmps8
  by_cases hge : q ≤ p
  · have hgi : (q : Int) ≤ (p : Int) := by omega
    obtain ⟨d, hd⟩ := nat_var (p - q)
    have Ld : Hid (d < 18446744073709551616) := Lib.hid (by have h1 := Kp.out; omega)
    have Hd : Hid (d < p25) := Lib.hid (small_p25 Ld.out)
    have hw4 : IntKind.u64.wrap ((p : Int) - (q : Int)) = (d : Int) := by rw [show (p : Int) - (q : Int) = (d : Int) by omega, wrap_nat _ Ld.out]
    have DD : Hid (subP p25 p q = d) := Lib.hid (by rw [sub_small hge Hp.out, hd])
    clear hd hge
    go_wp2_with (first
      | (go_at_call 18
         first
           | (have hgo := B0; clear hgo; refine (small_any p _ Lp.out).mono ?_; rintro e w1 ⟨rfl, hb1⟩
              have B1 := B0.trans (hb1.mono (HGS.out _ B0))
              clear B0 hb1)
           | (have hgo := B1; clear hgo; refine (small_any q _ Lq.out).mono ?_; rintro e w2 ⟨rfl, hb2⟩
              have B2 := B1.trans (hb2.mono (HGS.out _ B1))
              clear B1 hb2
              have g3 := HGS.out _ B2
              try simp only [World.size_alloc] at g3
              have B3 := B2.alloc (HGS.out _ B2) (.cells (arrOf 4 (u64f fun _ => 0)) 28)
              have r3_t5 := rowIs_arr w2 4 (u64f fun _ => 0) 28
              try simp only [World.size_alloc] at r3_t5
              clear B2
              have lt4_t5 := World.rowIs.lt r3_t5
              try simp only [World.size_alloc] at lt4_t5
              have g4 := HGS.out _ B3
              try simp only [World.size_alloc] at g4
              have r4_t5 := World.rowIs.alloc r3_t5 (.cells (arrOf 4 (u64f fun _ => 0)) 28)
              have B4 := B3.alloc (HGS.out _ B3) (.cells (arrOf 4 (u64f fun _ => 0)) 28)
              have r4_t6 := rowIs_arr (w2.alloc (.cells (arrOf 4 (u64f fun _ => 0)) 28)) 4 (u64f fun _ => 0) 28
              try simp only [World.size_alloc] at r4_t6
              clear B3)
           | (have hgo := B9; clear hgo; refine (small_any s _ Ls.out).mono ?_; rintro e w10 ⟨rfl, hb10⟩
              have r10_t5 := World.rowIs.of_block r9_t5 (hb10.block _ (World.rowIs.lt r9_t5))
              have r10_t6 := World.rowIs.of_block r9_t6 (hb10.block _ (World.rowIs.lt r9_t6))
              have r10_t7 := World.rowIs.of_block r9_t7 (hb10.block _ (World.rowIs.lt r9_t7))
              have B10 := B9.trans (hb10.mono (HGS.out _ B9))
              clear r9_t5 r9_t6 r9_t7 B9 hb10)
           | (have hgo := B13; clear hgo; refine (small_any d _ Ld.out).mono ?_; rintro e w14 ⟨rfl, hb14⟩
              have r14_t5 := World.rowIs.of_block r13_t5 (hb14.block _ (World.rowIs.lt r13_t5))
              have r14_t6 := World.rowIs.of_block r13_t6 (hb14.block _ (World.rowIs.lt r13_t6))
              have r14_t7 := World.rowIs.of_block r13_t7 (hb14.block _ (World.rowIs.lt r13_t7))
              have r14_t8 := World.rowIs.of_block r13_t8 (hb14.block _ (World.rowIs.lt r13_t8))
              have B14 := B13.trans (hb14.mono (HGS.out _ B13))
              clear r13_t5 r13_t6 r13_t7 r13_t8 B13 hb14)
           | (have hgo := B16; clear hgo; refine (small_any sm _ Lsm.out).mono ?_; rintro e w17 ⟨rfl, hb17⟩
              have r17_t5 := World.rowIs.of_block r16_t5 (hb17.block _ (World.rowIs.lt r16_t5))
              have r17_t6 := World.rowIs.of_block r16_t6 (hb17.block _ (World.rowIs.lt r16_t6))
              have r17_t7 := World.rowIs.of_block r16_t7 (hb17.block _ (World.rowIs.lt r16_t7))
              have r17_t8 := World.rowIs.of_block r16_t8 (hb17.block _ (World.rowIs.lt r16_t8))
              have B17 := B16.trans (hb17.mono (HGS.out _ B16))
              clear r16_t5 r16_t6 r16_t7 r16_t8 B16 hb17)
           | (have hgo := B19; clear hgo; refine (small_any pr _ Lpr.out).mono ?_; rintro e w20 ⟨rfl, hb20⟩
              have r20_t5 := World.rowIs.of_block r19_t5 (hb20.block _ (World.rowIs.lt r19_t5))
              have r20_t6 := World.rowIs.of_block r19_t6 (hb20.block _ (World.rowIs.lt r19_t6))
              have r20_t7 := World.rowIs.of_block r19_t7 (hb20.block _ (World.rowIs.lt r19_t7))
              have r20_t8 := World.rowIs.of_block r19_t8 (hb20.block _ (World.rowIs.lt r19_t8))
              have B20 := B19.trans (hb20.mono (HGS.out _ B19))
              clear r19_t5 r19_t6 r19_t7 r19_t8 B19 hb20))
      | (refine wpList_alloc_arr rfl 28 rfl (arrOf 4 (u64f fun _ => 0)) zeroE ?_; try simp only [World.size_alloc])
      | (refine wpList_store_arr rfl 28 (.tmp 5) (.tmp 14) rfl 4 arrE r4_t5 rfl rfl (by omega) (fun _ _ => rfl) ?_; intro x5 hr5 hg5 hs5
         have r5_t5 : x5.rowIs (w2.heap.size) 28 4 (ewF p) := hr5.congr fun i hi => by unfold putN; rw [if_pos (by omega), Nat.sub_zero]
         have r5_t6 := gb_rowIs r4_t6 hg5 (Ne.symm (Nat.ne_of_lt lt4_t5))
         have B5 := B4.grown hg5 (HGS.out _ B4) (by intro k hk; cases hk; exact g3)
         clear r4_t5 r4_t6 B4 hr5 hg5 hs5)
      | (refine wpList_store_arr rfl 28 (.tmp 6) (.tmp 16) rfl 4 arrE r5_t6 rfl rfl (by omega) (fun _ _ => rfl) ?_; intro x6 hr6 hg6 hs6
         have r6_t6 : x6.rowIs (w2.heap.size + 1) 28 4 (ewF q) := hr6.congr fun i hi => by unfold putN; rw [if_pos (by omega), Nat.sub_zero]
         have r6_t5 := gb_rowIs r5_t5 hg6 (Nat.ne_of_lt lt4_t5)
         have B6 := B5.grown hg6 (HGS.out _ B5) (by intro k hk; cases hk; exact g4)
         clear r5_t6 r5_t5 B5 hr6 hg6 hs6)
      | (refine wpList_load_arr rfl 28 (.tmp 5) rfl 4 arrE r6_t5 rfl (by omega) ?_; simp only [Nat.zero_add])
      | (refine wpList_load_arr rfl 28 (.tmp 6) rfl 4 arrE r6_t6 rfl (by omega) ?_; simp only [Nat.zero_add])
      | (go_at_call 22; have hgo := B6; clear hgo; refine (sub_any p q _ Hp.out Hq.out).mono ?_; rintro e w7 ⟨rfl, hb7⟩
         have r7_t5 := World.rowIs.of_block r6_t5 (hb7.block _ (World.rowIs.lt r6_t5))
         have r7_t6 := World.rowIs.of_block r6_t6 (hb7.block _ (World.rowIs.lt r6_t6))
         have B7 := B6.trans (hb7.mono (HGS.out _ B6))
         clear r6_t5 r6_t6 B6 hb7
         have lt8_t5 := World.rowIs.lt r7_t5
         try simp only [World.size_alloc] at lt8_t5
         have lt8_t6 := World.rowIs.lt r7_t6
         try simp only [World.size_alloc] at lt8_t6
         have g8 := HGS.out _ B7
         try simp only [World.size_alloc] at g8
         have r8_t5 := World.rowIs.alloc r7_t5 (.cells (arrOf 4 (u64f fun _ => 0)) 28)
         have r8_t6 := World.rowIs.alloc r7_t6 (.cells (arrOf 4 (u64f fun _ => 0)) 28)
         have B8 := B7.alloc (HGS.out _ B7) (.cells (arrOf 4 (u64f fun _ => 0)) 28)
         have r8_t7 := rowIs_arr w7 4 (u64f fun _ => 0) 28
         try simp only [World.size_alloc] at r8_t7
         clear B7)
      | (refine wpList_store_arr rfl 28 (.tmp 7) (.tmp 19) rfl 4 arrE r8_t7 rfl rfl (by omega) (fun _ _ => rfl) ?_; intro x9 hr9 hg9 hs9
         have r9_t7 : x9.rowIs (w7.heap.size) 28 4 (ewF (subP p25 p q)) := hr9.congr fun i hi => by unfold putN; rw [if_pos (by omega), Nat.sub_zero]
         have r9_t5 := gb_rowIs r8_t5 hg9 (Nat.ne_of_lt lt8_t5)
         have r9_t6 := gb_rowIs r8_t6 hg9 (Nat.ne_of_lt lt8_t6)
         have B9 := B8.grown hg9 (HGS.out _ B8) (by intro k hk; cases hk; exact g8)
         clear r8_t7 r8_t5 r8_t6 B8 hr9 hg9 hs9)
      | (go_at_call 26; have hgo := B10; clear hgo; refine (neg_any s _ Hs.out).mono ?_; rintro e w11 ⟨rfl, hb11⟩
         have r11_t5 := World.rowIs.of_block r10_t5 (hb11.block _ (World.rowIs.lt r10_t5))
         have r11_t6 := World.rowIs.of_block r10_t6 (hb11.block _ (World.rowIs.lt r10_t6))
         have r11_t7 := World.rowIs.of_block r10_t7 (hb11.block _ (World.rowIs.lt r10_t7))
         have B11 := B10.trans (hb11.mono (HGS.out _ B10))
         clear r10_t5 r10_t6 r10_t7 B10 hb11
         have lt12_t5 := World.rowIs.lt r11_t5
         try simp only [World.size_alloc] at lt12_t5
         have lt12_t6 := World.rowIs.lt r11_t6
         try simp only [World.size_alloc] at lt12_t6
         have lt12_t7 := World.rowIs.lt r11_t7
         try simp only [World.size_alloc] at lt12_t7
         have g12 := HGS.out _ B11
         try simp only [World.size_alloc] at g12
         have r12_t5 := World.rowIs.alloc r11_t5 (.cells (arrOf 4 (u64f fun _ => 0)) 28)
         have r12_t6 := World.rowIs.alloc r11_t6 (.cells (arrOf 4 (u64f fun _ => 0)) 28)
         have r12_t7 := World.rowIs.alloc r11_t7 (.cells (arrOf 4 (u64f fun _ => 0)) 28)
         have B12 := B11.alloc (HGS.out _ B11) (.cells (arrOf 4 (u64f fun _ => 0)) 28)
         have r12_t8 := rowIs_arr w11 4 (u64f fun _ => 0) 28
         try simp only [World.size_alloc] at r12_t8
         clear B11)
      | (refine wpList_store_arr rfl 28 (.tmp 8) (.tmp 24) rfl 4 arrE r12_t8 rfl rfl (by omega) (fun _ _ => rfl) ?_; intro x13 hr13 hg13 hs13
         have r13_t8 : x13.rowIs (w11.heap.size) 28 4 (ewF (oppP s)) := hr13.congr fun i hi => by unfold putN; rw [if_pos (by omega), Nat.sub_zero]
         have r13_t5 := gb_rowIs r12_t5 hg13 (Nat.ne_of_lt lt12_t5)
         have r13_t6 := gb_rowIs r12_t6 hg13 (Nat.ne_of_lt lt12_t6)
         have r13_t7 := gb_rowIs r12_t7 hg13 (Nat.ne_of_lt lt12_t7)
         have B13 := B12.grown hg13 (HGS.out _ B12) (by intro k hk; cases hk; exact g12)
         clear r12_t8 r12_t5 r12_t6 r12_t7 B12 hr13 hg13 hs13)
      | (refine wpList_store_arr rfl 28 (.tmp 8) (.tmp 31) rfl 4 arrE r14_t8 rfl rfl (by omega) (fun _ _ => rfl) ?_; intro x15 hr15 hg15 hs15
         have r15_t8 : x15.rowIs (w11.heap.size) 28 4 (ewF d) := hr15.congr fun i hi => by unfold putN; rw [if_pos (by omega), Nat.sub_zero]
         have r15_t5 := gb_rowIs r14_t5 hg15 (Nat.ne_of_lt lt12_t5)
         have r15_t6 := gb_rowIs r14_t6 hg15 (Nat.ne_of_lt lt12_t6)
         have r15_t7 := gb_rowIs r14_t7 hg15 (Nat.ne_of_lt lt12_t7)
         have B15 := B14.grown hg15 (HGS.out _ B14) (by intro k hk; cases hk; exact g12)
         clear r14_t8 r14_t5 r14_t6 r14_t7 B14 hr15 hg15 hs15)
      | (refine wpList_load_arr rfl 28 (.tmp 5) rfl 4 arrE r15_t5 rfl (by omega) ?_; simp only [Nat.zero_add])
      | (refine wpList_load_arr rfl 28 (.tmp 6) rfl 4 arrE r15_t6 rfl (by omega) ?_; simp only [Nat.zero_add])
      | (go_at_call 20; have hgo := B15; clear hgo; refine (add_any p q _ Hp.out Hq.out).mono ?_; rintro e w16 ⟨rfl, hb16⟩
         have r16_t5 := World.rowIs.of_block r15_t5 (hb16.block _ (World.rowIs.lt r15_t5))
         have r16_t6 := World.rowIs.of_block r15_t6 (hb16.block _ (World.rowIs.lt r15_t6))
         have r16_t7 := World.rowIs.of_block r15_t7 (hb16.block _ (World.rowIs.lt r15_t7))
         have r16_t8 := World.rowIs.of_block r15_t8 (hb16.block _ (World.rowIs.lt r15_t8))
         have B16 := B15.trans (hb16.mono (HGS.out _ B15))
         clear r15_t5 r15_t6 r15_t7 r15_t8 B15 hb16)
      | (go_at_call 28
         first
           | (have hgo := B17; clear hgo; refine (same5_yes (addP p q) sm _ (addP_lt _ _) Hsm.out (SM.out)).mono ?_; rintro e w18 ⟨rfl, hb18⟩
              have r18_t5 := World.rowIs.of_block r17_t5 (hb18.block _ (World.rowIs.lt r17_t5))
              have r18_t6 := World.rowIs.of_block r17_t6 (hb18.block _ (World.rowIs.lt r17_t6))
              have r18_t7 := World.rowIs.of_block r17_t7 (hb18.block _ (World.rowIs.lt r17_t7))
              have r18_t8 := World.rowIs.of_block r17_t8 (hb18.block _ (World.rowIs.lt r17_t8))
              have B18 := B17.trans (hb18.mono (HGS.out _ B17))
              clear r17_t5 r17_t6 r17_t7 r17_t8 B17 hb18)
           | (have hgo := B20; clear hgo; refine (same5_yes (mulP p q) pr _ (mulP_lt _ _) Hpr.out (PR.out)).mono ?_; rintro e w21 ⟨rfl, hb21⟩
              have r21_t5 := World.rowIs.of_block r20_t5 (hb21.block _ (World.rowIs.lt r20_t5))
              have r21_t6 := World.rowIs.of_block r20_t6 (hb21.block _ (World.rowIs.lt r20_t6))
              have r21_t7 := World.rowIs.of_block r20_t7 (hb21.block _ (World.rowIs.lt r20_t7))
              have r21_t8 := World.rowIs.of_block r20_t8 (hb21.block _ (World.rowIs.lt r20_t8))
              have B21 := B20.trans (hb21.mono (HGS.out _ B20))
              clear r20_t5 r20_t6 r20_t7 r20_t8 B20 hb21)
           | (have hgo := B21; clear hgo; refine (same5_yes (subP p25 p q) d _ (subP_lt _ _) Hd.out (DD.out)).mono ?_; rintro e w22 ⟨rfl, hb22⟩
              have r22_t5 := World.rowIs.of_block r21_t5 (hb22.block _ (World.rowIs.lt r21_t5))
              have r22_t6 := World.rowIs.of_block r21_t6 (hb22.block _ (World.rowIs.lt r21_t6))
              have r22_t7 := World.rowIs.of_block r21_t7 (hb22.block _ (World.rowIs.lt r21_t7))
              have r22_t8 := World.rowIs.of_block r21_t8 (hb22.block _ (World.rowIs.lt r21_t8))
              have B22 := B21.trans (hb22.mono (HGS.out _ B21))
              clear r21_t5 r21_t6 r21_t7 r21_t8 B21 hb22)
           | (have hgo := B23; clear hgo; refine (same5_is p q o2 _ Hp.out Hq.out O2.out).mono ?_; rintro e w24 ⟨rfl, hb24⟩
              have r24_t5 := World.rowIs.of_block r23_t5 (hb24.block _ (World.rowIs.lt r23_t5))
              have r24_t6 := World.rowIs.of_block r23_t6 (hb24.block _ (World.rowIs.lt r23_t6))
              have r24_t7 := World.rowIs.of_block r23_t7 (hb24.block _ (World.rowIs.lt r23_t7))
              have r24_t8 := World.rowIs.of_block r23_t8 (hb24.block _ (World.rowIs.lt r23_t8))
              have B24 := B23.trans (hb24.mono (HGS.out _ B23))
              clear r23_t5 r23_t6 r23_t7 r23_t8 B23 hb24))
      | (refine wpList_load_given rfl 28 (.tmp 5) rfl 4 arrE r18_t5 rfl (by omega) ?_; simp only [Nat.zero_add])
      | (refine wpList_load_given rfl 28 (.tmp 6) rfl 4 arrE r18_t6 rfl (by omega) ?_; simp only [Nat.zero_add])
      | (go_at_call 24; have hgo := B18; clear hgo; refine (mul_any p q _ Hp.out Hq.out).mono ?_; rintro e w19 ⟨rfl, hb19⟩
         have r19_t5 := World.rowIs.of_block r18_t5 (hb19.block _ (World.rowIs.lt r18_t5))
         have r19_t6 := World.rowIs.of_block r18_t6 (hb19.block _ (World.rowIs.lt r18_t6))
         have r19_t7 := World.rowIs.of_block r18_t7 (hb19.block _ (World.rowIs.lt r18_t7))
         have r19_t8 := World.rowIs.of_block r18_t8 (hb19.block _ (World.rowIs.lt r18_t8))
         have B19 := B18.trans (hb19.mono (HGS.out _ B18))
         clear r18_t5 r18_t6 r18_t7 r18_t8 B18 hb19)
      | (refine wpList_load_given rfl 28 (.tmp 7) rfl 4 arrE r21_t7 rfl (by omega) ?_; simp only [Nat.zero_add])
      | (refine wpList_load_given rfl 28 (.tmp 8) rfl 4 arrE r21_t8 rfl (by omega) ?_; simp only [Nat.zero_add])
      | (refine wpList_load_given rfl 28 (.tmp 5) rfl 4 arrE r22_t5 rfl (by omega) ?_; simp only [Nat.zero_add])
      | (go_at_call 29; have hgo := B22; clear hgo; refine (odd5_is p o1 _ O1.out).mono ?_; rintro e w23 ⟨rfl, hb23⟩
         have r23_t5 := World.rowIs.of_block r22_t5 (hb23.block _ (World.rowIs.lt r22_t5))
         have r23_t6 := World.rowIs.of_block r22_t6 (hb23.block _ (World.rowIs.lt r22_t6))
         have r23_t7 := World.rowIs.of_block r22_t7 (hb23.block _ (World.rowIs.lt r22_t7))
         have r23_t8 := World.rowIs.of_block r22_t8 (hb23.block _ (World.rowIs.lt r22_t8))
         have B23 := B22.trans (hb23.mono (HGS.out _ B22))
         clear r22_t5 r22_t6 r22_t7 r22_t8 B22 hb23)
      | refine wpList_u64_eql (.tmp 59) (.const (.int .u64 1)) rfl rfl (n := 1) rfl rfl O3.out ?_
      | refine wpList_bool_eql (.tmp 57) (.tmp 60) rfl rfl rfl rfl ?_
      | (refine wpList_load_given rfl 28 (.tmp 5) rfl 4 arrE r23_t5 rfl (by omega) ?_; simp only [Nat.zero_add])
      | (refine wpList_load_given rfl 28 (.tmp 6) rfl 4 arrE r23_t6 rfl (by omega) ?_; simp only [Nat.zero_add])
      | refine wpList_u64_eql (.tmp 67) (.tmp 68) rfl rfl rfl rfl O2.out ?_
      | refine wpList_bool_eql (.tmp 66) (.tmp 69) rfl rfl rfl rfl ?_
      | (go_at_call 12; have hgo := B24; clear hgo; refine (awake5_any _).mono ?_; rintro e w25 ⟨rfl, hb25⟩
         have r25_t5 := World.rowIs.of_block r24_t5 (hb25.block _ (World.rowIs.lt r24_t5))
         have r25_t6 := World.rowIs.of_block r24_t6 (hb25.block _ (World.rowIs.lt r24_t6))
         have r25_t7 := World.rowIs.of_block r24_t7 (hb25.block _ (World.rowIs.lt r24_t7))
         have r25_t8 := World.rowIs.of_block r24_t8 (hb25.block _ (World.rowIs.lt r24_t8))
         have B25 := B24.trans (hb25.mono (HGS.out _ B24))
         clear r24_t5 r24_t6 r24_t7 r24_t8 B24 hb25))
    go_ret
    exact ⟨rfl, B25⟩
  · have hgi : ¬ (q : Int) ≤ (p : Int) := by omega
    have DD : Hid (subP p25 p q = oppP s) := Lib.hid (by
      rw [sub_less (by omega) Hq.out]
      congr 1
      have h1 := HSS.out
      have h2 := Kp.out
      have h3 := Kq.out
      omega)
    clear hge
    go_wp2_with (first
      | (go_at_call 18
         first
           | (have hgo := B0; clear hgo; refine (small_any p _ Lp.out).mono ?_; rintro e w1 ⟨rfl, hb1⟩
              have B1 := B0.trans (hb1.mono (HGS.out _ B0))
              clear B0 hb1)
           | (have hgo := B1; clear hgo; refine (small_any q _ Lq.out).mono ?_; rintro e w2 ⟨rfl, hb2⟩
              have B2 := B1.trans (hb2.mono (HGS.out _ B1))
              clear B1 hb2
              have g3 := HGS.out _ B2
              try simp only [World.size_alloc] at g3
              have B3 := B2.alloc (HGS.out _ B2) (.cells (arrOf 4 (u64f fun _ => 0)) 28)
              have r3_t5 := rowIs_arr w2 4 (u64f fun _ => 0) 28
              try simp only [World.size_alloc] at r3_t5
              clear B2
              have lt4_t5 := World.rowIs.lt r3_t5
              try simp only [World.size_alloc] at lt4_t5
              have g4 := HGS.out _ B3
              try simp only [World.size_alloc] at g4
              have r4_t5 := World.rowIs.alloc r3_t5 (.cells (arrOf 4 (u64f fun _ => 0)) 28)
              have B4 := B3.alloc (HGS.out _ B3) (.cells (arrOf 4 (u64f fun _ => 0)) 28)
              have r4_t6 := rowIs_arr (w2.alloc (.cells (arrOf 4 (u64f fun _ => 0)) 28)) 4 (u64f fun _ => 0) 28
              try simp only [World.size_alloc] at r4_t6
              clear B3)
           | (have hgo := B9; clear hgo; refine (small_any s _ Ls.out).mono ?_; rintro e w10 ⟨rfl, hb10⟩
              have r10_t5 := World.rowIs.of_block r9_t5 (hb10.block _ (World.rowIs.lt r9_t5))
              have r10_t6 := World.rowIs.of_block r9_t6 (hb10.block _ (World.rowIs.lt r9_t6))
              have r10_t7 := World.rowIs.of_block r9_t7 (hb10.block _ (World.rowIs.lt r9_t7))
              have B10 := B9.trans (hb10.mono (HGS.out _ B9))
              clear r9_t5 r9_t6 r9_t7 B9 hb10)
           | (have hgo := B14; clear hgo; refine (small_any sm _ Lsm.out).mono ?_; rintro e w15 ⟨rfl, hb15⟩
              have r15_t5 := World.rowIs.of_block r14_t5 (hb15.block _ (World.rowIs.lt r14_t5))
              have r15_t6 := World.rowIs.of_block r14_t6 (hb15.block _ (World.rowIs.lt r14_t6))
              have r15_t7 := World.rowIs.of_block r14_t7 (hb15.block _ (World.rowIs.lt r14_t7))
              have r15_t8 := World.rowIs.of_block r14_t8 (hb15.block _ (World.rowIs.lt r14_t8))
              have B15 := B14.trans (hb15.mono (HGS.out _ B14))
              clear r14_t5 r14_t6 r14_t7 r14_t8 B14 hb15)
           | (have hgo := B17; clear hgo; refine (small_any pr _ Lpr.out).mono ?_; rintro e w18 ⟨rfl, hb18⟩
              have r18_t5 := World.rowIs.of_block r17_t5 (hb18.block _ (World.rowIs.lt r17_t5))
              have r18_t6 := World.rowIs.of_block r17_t6 (hb18.block _ (World.rowIs.lt r17_t6))
              have r18_t7 := World.rowIs.of_block r17_t7 (hb18.block _ (World.rowIs.lt r17_t7))
              have r18_t8 := World.rowIs.of_block r17_t8 (hb18.block _ (World.rowIs.lt r17_t8))
              have B18 := B17.trans (hb18.mono (HGS.out _ B17))
              clear r17_t5 r17_t6 r17_t7 r17_t8 B17 hb18))
      | (refine wpList_alloc_arr rfl 28 rfl (arrOf 4 (u64f fun _ => 0)) zeroE ?_; try simp only [World.size_alloc])
      | (refine wpList_store_arr rfl 28 (.tmp 5) (.tmp 14) rfl 4 arrE r4_t5 rfl rfl (by omega) (fun _ _ => rfl) ?_; intro x5 hr5 hg5 hs5
         have r5_t5 : x5.rowIs (w2.heap.size) 28 4 (ewF p) := hr5.congr fun i hi => by unfold putN; rw [if_pos (by omega), Nat.sub_zero]
         have r5_t6 := gb_rowIs r4_t6 hg5 (Ne.symm (Nat.ne_of_lt lt4_t5))
         have B5 := B4.grown hg5 (HGS.out _ B4) (by intro k hk; cases hk; exact g3)
         clear r4_t5 r4_t6 B4 hr5 hg5 hs5)
      | (refine wpList_store_arr rfl 28 (.tmp 6) (.tmp 16) rfl 4 arrE r5_t6 rfl rfl (by omega) (fun _ _ => rfl) ?_; intro x6 hr6 hg6 hs6
         have r6_t6 : x6.rowIs (w2.heap.size + 1) 28 4 (ewF q) := hr6.congr fun i hi => by unfold putN; rw [if_pos (by omega), Nat.sub_zero]
         have r6_t5 := gb_rowIs r5_t5 hg6 (Nat.ne_of_lt lt4_t5)
         have B6 := B5.grown hg6 (HGS.out _ B5) (by intro k hk; cases hk; exact g4)
         clear r5_t6 r5_t5 B5 hr6 hg6 hs6)
      | (refine wpList_load_arr rfl 28 (.tmp 5) rfl 4 arrE r6_t5 rfl (by omega) ?_; simp only [Nat.zero_add])
      | (refine wpList_load_arr rfl 28 (.tmp 6) rfl 4 arrE r6_t6 rfl (by omega) ?_; simp only [Nat.zero_add])
      | (go_at_call 22; have hgo := B6; clear hgo; refine (sub_any p q _ Hp.out Hq.out).mono ?_; rintro e w7 ⟨rfl, hb7⟩
         have r7_t5 := World.rowIs.of_block r6_t5 (hb7.block _ (World.rowIs.lt r6_t5))
         have r7_t6 := World.rowIs.of_block r6_t6 (hb7.block _ (World.rowIs.lt r6_t6))
         have B7 := B6.trans (hb7.mono (HGS.out _ B6))
         clear r6_t5 r6_t6 B6 hb7
         have lt8_t5 := World.rowIs.lt r7_t5
         try simp only [World.size_alloc] at lt8_t5
         have lt8_t6 := World.rowIs.lt r7_t6
         try simp only [World.size_alloc] at lt8_t6
         have g8 := HGS.out _ B7
         try simp only [World.size_alloc] at g8
         have r8_t5 := World.rowIs.alloc r7_t5 (.cells (arrOf 4 (u64f fun _ => 0)) 28)
         have r8_t6 := World.rowIs.alloc r7_t6 (.cells (arrOf 4 (u64f fun _ => 0)) 28)
         have B8 := B7.alloc (HGS.out _ B7) (.cells (arrOf 4 (u64f fun _ => 0)) 28)
         have r8_t7 := rowIs_arr w7 4 (u64f fun _ => 0) 28
         try simp only [World.size_alloc] at r8_t7
         clear B7)
      | (refine wpList_store_arr rfl 28 (.tmp 7) (.tmp 19) rfl 4 arrE r8_t7 rfl rfl (by omega) (fun _ _ => rfl) ?_; intro x9 hr9 hg9 hs9
         have r9_t7 : x9.rowIs (w7.heap.size) 28 4 (ewF (subP p25 p q)) := hr9.congr fun i hi => by unfold putN; rw [if_pos (by omega), Nat.sub_zero]
         have r9_t5 := gb_rowIs r8_t5 hg9 (Nat.ne_of_lt lt8_t5)
         have r9_t6 := gb_rowIs r8_t6 hg9 (Nat.ne_of_lt lt8_t6)
         have B9 := B8.grown hg9 (HGS.out _ B8) (by intro k hk; cases hk; exact g8)
         clear r8_t7 r8_t5 r8_t6 B8 hr9 hg9 hs9)
      | (go_at_call 26; have hgo := B10; clear hgo; refine (neg_any s _ Hs.out).mono ?_; rintro e w11 ⟨rfl, hb11⟩
         have r11_t5 := World.rowIs.of_block r10_t5 (hb11.block _ (World.rowIs.lt r10_t5))
         have r11_t6 := World.rowIs.of_block r10_t6 (hb11.block _ (World.rowIs.lt r10_t6))
         have r11_t7 := World.rowIs.of_block r10_t7 (hb11.block _ (World.rowIs.lt r10_t7))
         have B11 := B10.trans (hb11.mono (HGS.out _ B10))
         clear r10_t5 r10_t6 r10_t7 B10 hb11
         have lt12_t5 := World.rowIs.lt r11_t5
         try simp only [World.size_alloc] at lt12_t5
         have lt12_t6 := World.rowIs.lt r11_t6
         try simp only [World.size_alloc] at lt12_t6
         have lt12_t7 := World.rowIs.lt r11_t7
         try simp only [World.size_alloc] at lt12_t7
         have g12 := HGS.out _ B11
         try simp only [World.size_alloc] at g12
         have r12_t5 := World.rowIs.alloc r11_t5 (.cells (arrOf 4 (u64f fun _ => 0)) 28)
         have r12_t6 := World.rowIs.alloc r11_t6 (.cells (arrOf 4 (u64f fun _ => 0)) 28)
         have r12_t7 := World.rowIs.alloc r11_t7 (.cells (arrOf 4 (u64f fun _ => 0)) 28)
         have B12 := B11.alloc (HGS.out _ B11) (.cells (arrOf 4 (u64f fun _ => 0)) 28)
         have r12_t8 := rowIs_arr w11 4 (u64f fun _ => 0) 28
         try simp only [World.size_alloc] at r12_t8
         clear B11)
      | (refine wpList_store_arr rfl 28 (.tmp 8) (.tmp 24) rfl 4 arrE r12_t8 rfl rfl (by omega) (fun _ _ => rfl) ?_; intro x13 hr13 hg13 hs13
         have r13_t8 : x13.rowIs (w11.heap.size) 28 4 (ewF (oppP s)) := hr13.congr fun i hi => by unfold putN; rw [if_pos (by omega), Nat.sub_zero]
         have r13_t5 := gb_rowIs r12_t5 hg13 (Nat.ne_of_lt lt12_t5)
         have r13_t6 := gb_rowIs r12_t6 hg13 (Nat.ne_of_lt lt12_t6)
         have r13_t7 := gb_rowIs r12_t7 hg13 (Nat.ne_of_lt lt12_t7)
         have B13 := B12.grown hg13 (HGS.out _ B12) (by intro k hk; cases hk; exact g12)
         clear r12_t8 r12_t5 r12_t6 r12_t7 B12 hr13 hg13 hs13)
      | (refine wpList_load_arr rfl 28 (.tmp 5) rfl 4 arrE r13_t5 rfl (by omega) ?_; simp only [Nat.zero_add])
      | (refine wpList_load_arr rfl 28 (.tmp 6) rfl 4 arrE r13_t6 rfl (by omega) ?_; simp only [Nat.zero_add])
      | (go_at_call 20; have hgo := B13; clear hgo; refine (add_any p q _ Hp.out Hq.out).mono ?_; rintro e w14 ⟨rfl, hb14⟩
         have r14_t5 := World.rowIs.of_block r13_t5 (hb14.block _ (World.rowIs.lt r13_t5))
         have r14_t6 := World.rowIs.of_block r13_t6 (hb14.block _ (World.rowIs.lt r13_t6))
         have r14_t7 := World.rowIs.of_block r13_t7 (hb14.block _ (World.rowIs.lt r13_t7))
         have r14_t8 := World.rowIs.of_block r13_t8 (hb14.block _ (World.rowIs.lt r13_t8))
         have B14 := B13.trans (hb14.mono (HGS.out _ B13))
         clear r13_t5 r13_t6 r13_t7 r13_t8 B13 hb14)
      | (go_at_call 28
         first
           | (have hgo := B15; clear hgo; refine (same5_yes (addP p q) sm _ (addP_lt _ _) Hsm.out (SM.out)).mono ?_; rintro e w16 ⟨rfl, hb16⟩
              have r16_t5 := World.rowIs.of_block r15_t5 (hb16.block _ (World.rowIs.lt r15_t5))
              have r16_t6 := World.rowIs.of_block r15_t6 (hb16.block _ (World.rowIs.lt r15_t6))
              have r16_t7 := World.rowIs.of_block r15_t7 (hb16.block _ (World.rowIs.lt r15_t7))
              have r16_t8 := World.rowIs.of_block r15_t8 (hb16.block _ (World.rowIs.lt r15_t8))
              have B16 := B15.trans (hb16.mono (HGS.out _ B15))
              clear r15_t5 r15_t6 r15_t7 r15_t8 B15 hb16)
           | (have hgo := B18; clear hgo; refine (same5_yes (mulP p q) pr _ (mulP_lt _ _) Hpr.out (PR.out)).mono ?_; rintro e w19 ⟨rfl, hb19⟩
              have r19_t5 := World.rowIs.of_block r18_t5 (hb19.block _ (World.rowIs.lt r18_t5))
              have r19_t6 := World.rowIs.of_block r18_t6 (hb19.block _ (World.rowIs.lt r18_t6))
              have r19_t7 := World.rowIs.of_block r18_t7 (hb19.block _ (World.rowIs.lt r18_t7))
              have r19_t8 := World.rowIs.of_block r18_t8 (hb19.block _ (World.rowIs.lt r18_t8))
              have B19 := B18.trans (hb19.mono (HGS.out _ B18))
              clear r18_t5 r18_t6 r18_t7 r18_t8 B18 hb19)
           | (have hgo := B19; clear hgo; refine (same5_yes (subP p25 p q) (oppP s) _ (subP_lt _ _) (oppP_lt _) (DD.out)).mono ?_; rintro e w20 ⟨rfl, hb20⟩
              have r20_t5 := World.rowIs.of_block r19_t5 (hb20.block _ (World.rowIs.lt r19_t5))
              have r20_t6 := World.rowIs.of_block r19_t6 (hb20.block _ (World.rowIs.lt r19_t6))
              have r20_t7 := World.rowIs.of_block r19_t7 (hb20.block _ (World.rowIs.lt r19_t7))
              have r20_t8 := World.rowIs.of_block r19_t8 (hb20.block _ (World.rowIs.lt r19_t8))
              have B20 := B19.trans (hb20.mono (HGS.out _ B19))
              clear r19_t5 r19_t6 r19_t7 r19_t8 B19 hb20)
           | (have hgo := B21; clear hgo; refine (same5_is p q o2 _ Hp.out Hq.out O2.out).mono ?_; rintro e w22 ⟨rfl, hb22⟩
              have r22_t5 := World.rowIs.of_block r21_t5 (hb22.block _ (World.rowIs.lt r21_t5))
              have r22_t6 := World.rowIs.of_block r21_t6 (hb22.block _ (World.rowIs.lt r21_t6))
              have r22_t7 := World.rowIs.of_block r21_t7 (hb22.block _ (World.rowIs.lt r21_t7))
              have r22_t8 := World.rowIs.of_block r21_t8 (hb22.block _ (World.rowIs.lt r21_t8))
              have B22 := B21.trans (hb22.mono (HGS.out _ B21))
              clear r21_t5 r21_t6 r21_t7 r21_t8 B21 hb22))
      | (refine wpList_load_given rfl 28 (.tmp 5) rfl 4 arrE r16_t5 rfl (by omega) ?_; simp only [Nat.zero_add])
      | (refine wpList_load_given rfl 28 (.tmp 6) rfl 4 arrE r16_t6 rfl (by omega) ?_; simp only [Nat.zero_add])
      | (go_at_call 24; have hgo := B16; clear hgo; refine (mul_any p q _ Hp.out Hq.out).mono ?_; rintro e w17 ⟨rfl, hb17⟩
         have r17_t5 := World.rowIs.of_block r16_t5 (hb17.block _ (World.rowIs.lt r16_t5))
         have r17_t6 := World.rowIs.of_block r16_t6 (hb17.block _ (World.rowIs.lt r16_t6))
         have r17_t7 := World.rowIs.of_block r16_t7 (hb17.block _ (World.rowIs.lt r16_t7))
         have r17_t8 := World.rowIs.of_block r16_t8 (hb17.block _ (World.rowIs.lt r16_t8))
         have B17 := B16.trans (hb17.mono (HGS.out _ B16))
         clear r16_t5 r16_t6 r16_t7 r16_t8 B16 hb17)
      | (refine wpList_load_given rfl 28 (.tmp 7) rfl 4 arrE r19_t7 rfl (by omega) ?_; simp only [Nat.zero_add])
      | (refine wpList_load_given rfl 28 (.tmp 8) rfl 4 arrE r19_t8 rfl (by omega) ?_; simp only [Nat.zero_add])
      | (refine wpList_load_given rfl 28 (.tmp 5) rfl 4 arrE r20_t5 rfl (by omega) ?_; simp only [Nat.zero_add])
      | (go_at_call 29; have hgo := B20; clear hgo; refine (odd5_is p o1 _ O1.out).mono ?_; rintro e w21 ⟨rfl, hb21⟩
         have r21_t5 := World.rowIs.of_block r20_t5 (hb21.block _ (World.rowIs.lt r20_t5))
         have r21_t6 := World.rowIs.of_block r20_t6 (hb21.block _ (World.rowIs.lt r20_t6))
         have r21_t7 := World.rowIs.of_block r20_t7 (hb21.block _ (World.rowIs.lt r20_t7))
         have r21_t8 := World.rowIs.of_block r20_t8 (hb21.block _ (World.rowIs.lt r20_t8))
         have B21 := B20.trans (hb21.mono (HGS.out _ B20))
         clear r20_t5 r20_t6 r20_t7 r20_t8 B20 hb21)
      | refine wpList_u64_eql (.tmp 59) (.const (.int .u64 1)) rfl rfl (n := 1) rfl rfl O3.out ?_
      | refine wpList_bool_eql (.tmp 57) (.tmp 60) rfl rfl rfl rfl ?_
      | (refine wpList_load_given rfl 28 (.tmp 5) rfl 4 arrE r21_t5 rfl (by omega) ?_; simp only [Nat.zero_add])
      | (refine wpList_load_given rfl 28 (.tmp 6) rfl 4 arrE r21_t6 rfl (by omega) ?_; simp only [Nat.zero_add])
      | refine wpList_u64_eql (.tmp 67) (.tmp 68) rfl rfl rfl rfl O2.out ?_
      | refine wpList_bool_eql (.tmp 66) (.tmp 69) rfl rfl rfl rfl ?_
      | (go_at_call 12; have hgo := B22; clear hgo; refine (awake5_any _).mono ?_; rintro e w23 ⟨rfl, hb23⟩
         have r23_t5 := World.rowIs.of_block r22_t5 (hb23.block _ (World.rowIs.lt r22_t5))
         have r23_t6 := World.rowIs.of_block r22_t6 (hb23.block _ (World.rowIs.lt r22_t6))
         have r23_t7 := World.rowIs.of_block r22_t7 (hb23.block _ (World.rowIs.lt r22_t7))
         have r23_t8 := World.rowIs.of_block r22_t8 (hb23.block _ (World.rowIs.lt r22_t8))
         have B23 := B22.trans (hb23.mono (HGS.out _ B22))
         clear r22_t5 r22_t6 r22_t7 r22_t8 B22 hb23))
    go_ret
    exact ⟨rfl, B23⟩
end Go.Proofs.Ythapdohblphlgaa
