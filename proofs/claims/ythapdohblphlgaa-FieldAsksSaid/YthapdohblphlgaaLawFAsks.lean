/- FieldAsks, walked. -/
import Derived.Test.YthapdohblphlgaaEwL
namespace Go.Proofs.Ythapdohblphlgaa
open Go.RowKit Go.Deep

theorem exec_u64_eql {w : World} (ρ : Operand → Value) (x y : Operand) (t : TypeId) {a b : Nat} {o : Bool} (hx : ρ x = .int .u64 (a : Int)) (hy : ρ y = .int .u64 (b : Int)) (ho : o = decide (a = b)) :
    (execOp ρ (mkOp (.binOp .eql 23 x y 23) t)).run Try.prog w = .ok (.value (.bool o)) w := by
  subst ho
  by_cases h : a = b
  · subst h
    rw [decide_eq_true rfl]
    simp only [execOp, mkOp, hx, hy]
    go_simp
    all_goals simp
  · rw [decide_eq_false h]
    have h2 : ¬ (a : Int) = (b : Int) := by omega
    simp only [execOp, mkOp, hx, hy]
    go_simp
    all_goals simp [h, h2]
theorem exec_bool_eql {w : World} (ρ : Operand → Value) (x y : Operand) (t : TypeId) {o : Bool} (hx : ρ x = .bool o) (hy : ρ y = .bool o) :
    (execOp ρ (mkOp (.binOp .eql 4 x y 4) t)).run Try.prog w = .ok (.value (.bool true)) w := by
  cases o
  · simp only [execOp, mkOp, hx, hy]
    go_simp
  · simp only [execOp, mkOp, hx, hy]
    go_simp
theorem wpList_u64_eql {ops : Array Oper} {Q : Exit → Act → World → Prop} {a : Act} {w : World} {rest : List Oper} {o : Oper} (x y : Operand) (ho : o.op = .binOp .eql 23 x y 23) (hw : Region.wanted o (yielded ops a.tmps) = true) {m n : Nat} {r : Bool}
    (hx : a.eval x = .int .u64 (m : Int)) (hy : a.eval y = .int .u64 (n : Int)) (hr : r = decide (m = n)) (h : wpList Try.prog ops Q rest (a.put o.dst (.bool r)) w) : wpList Try.prog ops Q (o :: rest) a w :=
  wpList_value_given hw (.bool r) (by rw [exec_mkOp, ho]; exact exec_u64_eql _ x y _ hx hy hr) h
theorem wpList_bool_eql {ops : Array Oper} {Q : Exit → Act → World → Prop} {a : Act} {w : World} {rest : List Oper} {o : Oper} (x y : Operand) (ho : o.op = .binOp .eql 4 x y 4) (hw : Region.wanted o (yielded ops a.tmps) = true) {r : Bool}
    (hx : a.eval x = .bool r) (hy : a.eval y = .bool r) (h : wpList Try.prog ops Q rest (a.put o.dst (.bool true)) w) : wpList Try.prog ops Q (o :: rest) a w :=
  wpList_value_given hw (.bool true) (by rw [exec_mkOp, ho]; exact exec_bool_eql _ x y _ hx hy) h
theorem same5_is (A C : Nat) (o : Bool) (w : World) (hA : A < p25) (hC : C < p25) (h : o = decide (A = C)) : Calls Try.prog 28 #[.agg (arrOf 4 (ewF A)), .agg (arrOf 4 (ewF C))] w fun e w' => e = .returned (.bool o) ∧ Below w.heap.size w w' := by
  have g := same_any A C w hA hC
  rwa [← h] at g
theorem odd5_is (A : Nat) (o : Bool) (w : World) (h : o = decide (A % 2 = 1)) : Calls Try.prog 29 #[.agg (arrOf 4 (ewF A))] w fun e w' => e = .returned (.bool o) ∧ Below w.heap.size w w' := by
  have g := odd_any A w
  rwa [← h] at g
def stpOf : List (Bool × Nat) → Stp → Stp
  | [], r => r
  | (true, i) :: s, r => .wr i (stpOf s r)
  | (false, i) :: s, r => .rd i (stpOf s r)
def segOk (ops : Array Oper) : List (Bool × Nat) → Array Bool → Bool
  | [], _ => true
  | (true, i) :: s, l => (Region.ready .any ops l == [i]) && segOk ops s (l.setIfInBounds i true)
  | (false, i) :: s, l => (Region.ready .any ops l).contains i && Region.free .any ops l i && segOk ops s (l.setIfInBounds i true)
def segEnd : List (Bool × Nat) → Array Bool → Array Bool
  | [], l => l
  | (_, i) :: s, l => segEnd s (l.setIfInBounds i true)
theorem lintOk_seg {ops : Array Oper} {r : Stp} {l' : Array Bool} : ∀ (s : List (Bool × Nat)) {l : Array Bool}, segOk ops s l = true → segEnd s l = l' → lintOk ops r l' = true → lintOk ops (stpOf s r) l = true
  | [], l, _, h2, h3 => by subst h2; exact h3
  | (true, i) :: s, l, h1, h2, h3 => by
    simp only [segOk, Bool.and_eq_true] at h1
    simp only [stpOf, lintOk, Bool.and_eq_true]
    exact ⟨h1.1, lintOk_seg s h1.2 h2 h3⟩
  | (false, i) :: s, l, h1, h2, h3 => by
    simp only [segOk, Bool.and_eq_true] at h1
    simp only [stpOf, lintOk, Bool.and_eq_true]
    exact ⟨h1.1, lintOk_seg s h1.2 h2 h3⟩
theorem refStrict5_any (v : Value) (l : List UInt8) (w : World) (hv : Bs w v l) : Calls Try.prog 16 #[v] w fun e w' =>
    e = .returned (.tuple #[.agg (arrOf 16 (feF ((strictL l).getD 0))), .int .i64 (strictE (strictL l))]) ∧ Below w.heap.size w w' := refStrict_any v l w hv
theorem exec_Fe_eql {w : World} (ρ : Operand → Value) (x y : Operand) (t : TypeId) {A C : Nat} {o : Bool} (hA : A < p25) (hC : C < p25) (ho : o = decide (A = C)) (hx : ρ x = .agg (arrOf 16 fun i => feF A (0 + i))) (hy : ρ y = .agg (arrOf 16 fun i => feF C (0 + i))) :
    (execOp ρ (mkOp (.binOp .eql 31 x y 31) t)).run Try.prog w = .ok (.value (.bool o)) w := by
  simp only [Nat.zero_add] at hx hy
  have hq := run_eqGuard_agg (P := Try.prog) w .eql 31 x y (arrOf 16 (feF A)) (arrOf 16 (feF C)) (by kernel_rfl)
  have hr := run_eql_arr2 (P := Try.prog) w 31 23 16 .u64 (fun i => (dig A i : Int)) (fun i => (dig C i : Int)) (by kernel_rfl) (by kernel_rfl) (by kernel_rfl)
  rw [ho]
  have hr' : (binOp .eql 31 (.agg (arrOf 16 (feF A))) (.agg (arrOf 16 (feF C)))).run Try.prog w = .ok (.bool (decide (A = C))) w := by
    rw [← decide_eq_decide.2 (dig_inj hA hC)]; exact hr
  simp [execOp, mkOp, hx, hy, hq, hr', Result.andThen]
theorem exec_and_one {w : World} (ρ : Operand → Value) (x y : Operand) (t : TypeId) {a : Nat} (ha : a < 18446744073709551616) (hx : ρ x = .int .u64 (a : Int)) (hy : ρ y = .int .u64 1) :
    (execOp ρ (mkOp (.binOp .and 23 x y 23) t)).run Try.prog w = .ok (.value (.int .u64 ((a % 2 : Nat) : Int))) w := by
  have hm := mask64 a 1 ha (by decide) 1 rfl
  rw [show (2 : Nat) ^ 1 = 2 from rfl] at hm
  have hc : (a % 2 : Nat) < 18446744073709551616 := by omega
  have hm2 := wrap_nat _ hc
  generalize a % 2 = r at hm hm2
  simp only [execOp, mkOp, hx, hy]
  go_simp
set_option maxHeartbeats 16000000 in
set_option maxRecDepth 100000 in
theorem law_fieldAsks (w : World) (v0 : Value) (l0 : List UInt8) (h0 : Bs w v0 l0) (v1 : Value) (l1 : List UInt8) (h1 : Bs w v1 l1) (x2 : Int) (w2 : (Lit.int .u64 x2).wf = true) : Calls Try.prog 3 #[v0, v1, .int .u64 x2] w fun e w' => e = .returned (.bool true) ∧ Below w.heap.size w w' := by
  obtain ⟨a0, n0, c0, rfl, e0, f0, g0, hB0⟩ := h0.shape
  have H0 := Lib.hid hB0
  obtain ⟨a1, n1, c1, rfl, e1, f1, g1, hB1⟩ := h1.shape
  have H1 := Lib.hid hB1
  have HOF0 := Lib.hid fun v w (h : Bs w v l0) => of_any v l0 w h
  have HRF0 := Lib.hid fun v w (h : Bs w v l0) => refOf_any v l0 w h
  obtain ⟨A, hA⟩ := nat_var (ofL l0)
  have HA : Hid (A < p25) := Lib.hid (by rw [hA]; exact ofL_lt l0)
  rw [← hA] at HOF0 HRF0
  clear hA
  have HOF1 := Lib.hid fun v w (h : Bs w v l1) => of_any v l1 w h
  have HRF1 := Lib.hid fun v w (h : Bs w v l1) => refOf_any v l1 w h
  obtain ⟨C, hC⟩ := nat_var (ofL l1)
  have HC : Hid (C < p25) := Lib.hid (by rw [hC]; exact ofL_lt l1)
  rw [← hC] at HOF1 HRF1
  clear hC
  have B0 := Below.refl w.heap.size w
  have HGS : Hid (∀ wq : World, Below w.heap.size w wq → w.heap.size ≤ wq.heap.size) := Lib.hid fun wq h => h.size
  have HST := Lib.hid fun v w (h : Bs w v l0) => strict_any v l0 w h
  have HSR := Lib.hid fun v w (h : Bs w v l0) => refStrict5_any v l0 w h
  obtain ⟨T, hT⟩ := nat_var ((strictL l0).getD 0)
  obtain ⟨E, hE⟩ : ∃ E, E = strictE (strictL l0) := ⟨_, rfl⟩
  rw [← hT, ← hE] at HST HSR
  clear hT hE
  obtain ⟨hx2, hy2⟩ := bd_u64 w2
  clear w2
  obtain ⟨n, rfl⟩ := Int.eq_ofNat_of_zero_le hx2
  have Ln : Hid (n < 18446744073709551616) := Lib.hid (by omega)
  clear hx2 hy2
  obtain ⟨o1, ho1⟩ : ∃ o1, o1 = decide (A = C) := ⟨_, rfl⟩
  obtain ⟨o2, ho2⟩ : ∃ o2, o2 = decide (A % 2 = 1) := ⟨_, rfl⟩
  have O1 := Lib.hid ho1
  have O2 := Lib.hid ho2
  have O3 : Hid (o2 = decide (dig A 0 % 2 = 1)) := Lib.hid (by rw [ho2, show dig A 0 % 2 = A % 2 by rw [dig_zero]; omega])
  have D0 : Hid (dig A 0 < 18446744073709551616) := Lib.hid (by have := dig_lt A 0; omega)
  clear ho1 ho2
  have hfew := few5_any _ _ l0 l1 w hB0 hB1
  by_cases d0 : ¬ (l0.length ≤ 100 ∧ l1.length ≤ 100)
  · rw [decide_eq_false d0] at hfew
    have HFEW := Lib.hid hfew
    clear hfew d0
    go_enter Try.func3, Try.ntmps3
    go_wp2_with (first
      | (go_at_call 11; refine HFEW.out.mono ?_; rintro e w1 ⟨rfl, rfl⟩)
      | (go_at_call 12; refine (awake5_any _).mono ?_; rintro e w9 ⟨rfl, hb9⟩))
    go_ret
    exact ⟨rfl, hb9⟩
  replace d0 := Classical.not_not.1 d0
  rw [decide_eq_true d0] at hfew
  have HFEW := Lib.hid hfew
  clear hfew d0 hB0 hB1 e0 e1 h0 h1
  go_enter Try.func3, Try.ntmps3
  go_wp2_with (first
    | (go_at_call 11; refine HFEW.out.mono ?_; rintro e w1 ⟨rfl, rfl⟩; clear HFEW)
    | (go_at_call 13
       first
         | (have hgo := B0; clear hgo; refine (HOF0.out _ _ (H0.out.below B0 (Nat.le_refl _))).mono ?_; rintro e w1 ⟨rfl, hb1⟩
            have B1 := B0.trans (hb1.mono (HGS.out _ B0))
            clear B0 hb1
            have g2 := HGS.out _ B1
            try simp only [World.size_alloc] at g2
            have B2 := B1.alloc (HGS.out _ B1) (.cells (arrOf 4 (u64f fun _ => 0)) 28)
            have r2_t7 := rowIs_arr w1 4 (u64f fun _ => 0) 28
            try simp only [World.size_alloc] at r2_t7
            clear B1)
         | (have hgo := B3; clear hgo; refine (HOF1.out _ _ (H1.out.below B3 (Nat.le_refl _))).mono ?_; rintro e w4 ⟨rfl, hb4⟩
            have r4_t7 := World.rowIs.of_block r3_t7 (hb4.block _ (World.rowIs.lt r3_t7))
            have B4 := B3.trans (hb4.mono (HGS.out _ B3))
            clear r3_t7 B3 hb4
            have lt5_t7 := World.rowIs.lt r4_t7
            try simp only [World.size_alloc] at lt5_t7
            have g5 := HGS.out _ B4
            try simp only [World.size_alloc] at g5
            have r5_t7 := World.rowIs.alloc r4_t7 (.cells (arrOf 4 (u64f fun _ => 0)) 28)
            have B5 := B4.alloc (HGS.out _ B4) (.cells (arrOf 4 (u64f fun _ => 0)) 28)
            have r5_t8 := rowIs_arr w4 4 (u64f fun _ => 0) 28
            try simp only [World.size_alloc] at r5_t8
            clear B4))
    | (refine wpList_alloc_arr rfl 28 rfl (arrOf 4 (u64f fun _ => 0)) zeroE ?_; try simp only [World.size_alloc])
    | (refine wpList_store_arr rfl 28 (.tmp 7) (.tmp 21) rfl 4 arrE r2_t7 rfl rfl (by omega) (fun _ _ => rfl) ?_; intro x3 hr3 hg3 hs3
       have r3_t7 : x3.rowIs (w1.heap.size) 28 4 (ewF A) := hr3.congr fun i hi => by unfold putN; rw [if_pos (by omega), Nat.sub_zero]
       have B3 := B2.grown hg3 (HGS.out _ B2) (by intro k hk; cases hk; exact g2)
       clear r2_t7 B2 hr3 hg3 hs3)
    | (refine wpList_store_arr rfl 28 (.tmp 8) (.tmp 23) rfl 4 arrE r5_t8 rfl rfl (by omega) (fun _ _ => rfl) ?_; intro x6 hr6 hg6 hs6
       have r6_t8 : x6.rowIs (w4.heap.size) 28 4 (ewF C) := hr6.congr fun i hi => by unfold putN; rw [if_pos (by omega), Nat.sub_zero]
       have r6_t7 := gb_rowIs r5_t7 hg6 (Nat.ne_of_lt lt5_t7)
       have B6 := B5.grown hg6 (HGS.out _ B5) (by intro k hk; cases hk; exact g5)
       clear r5_t8 r5_t7 B5 hr6 hg6 hs6)
    | (go_at_call 14
       first
         | (have hgo := B6; clear hgo; refine (HRF0.out _ _ (H0.out.below B6 (Nat.le_refl _))).mono ?_; rintro e w7 ⟨rfl, hb7⟩
            have r7_t7 := World.rowIs.of_block r6_t7 (hb7.block _ (World.rowIs.lt r6_t7))
            have r7_t8 := World.rowIs.of_block r6_t8 (hb7.block _ (World.rowIs.lt r6_t8))
            have B7 := B6.trans (hb7.mono (HGS.out _ B6))
            clear r6_t7 r6_t8 B6 hb7
            have lt8_t7 := World.rowIs.lt r7_t7
            try simp only [World.size_alloc] at lt8_t7
            have lt8_t8 := World.rowIs.lt r7_t8
            try simp only [World.size_alloc] at lt8_t8
            have g8 := HGS.out _ B7
            try simp only [World.size_alloc] at g8
            have r8_t7 := World.rowIs.alloc r7_t7 (.cells (arrOf 16 (u64f fun _ => 0)) 31)
            have r8_t8 := World.rowIs.alloc r7_t8 (.cells (arrOf 16 (u64f fun _ => 0)) 31)
            have B8 := B7.alloc (HGS.out _ B7) (.cells (arrOf 16 (u64f fun _ => 0)) 31)
            have r8_t9 := rowIs_arr w7 16 (u64f fun _ => 0) 31
            try simp only [World.size_alloc] at r8_t9
            clear B7)
         | (have hgo := B9; clear hgo; refine (HRF1.out _ _ (H1.out.below B9 (Nat.le_refl _))).mono ?_; rintro e w10 ⟨rfl, hb10⟩
            have r10_t7 := World.rowIs.of_block r9_t7 (hb10.block _ (World.rowIs.lt r9_t7))
            have r10_t8 := World.rowIs.of_block r9_t8 (hb10.block _ (World.rowIs.lt r9_t8))
            have r10_t9 := World.rowIs.of_block r9_t9 (hb10.block _ (World.rowIs.lt r9_t9))
            have B10 := B9.trans (hb10.mono (HGS.out _ B9))
            clear r9_t7 r9_t8 r9_t9 B9 hb10
            have lt11_t7 := World.rowIs.lt r10_t7
            try simp only [World.size_alloc] at lt11_t7
            have lt11_t8 := World.rowIs.lt r10_t8
            try simp only [World.size_alloc] at lt11_t8
            have lt11_t9 := World.rowIs.lt r10_t9
            try simp only [World.size_alloc] at lt11_t9
            have g11 := HGS.out _ B10
            try simp only [World.size_alloc] at g11
            have r11_t7 := World.rowIs.alloc r10_t7 (.cells (arrOf 16 (u64f fun _ => 0)) 31)
            have r11_t8 := World.rowIs.alloc r10_t8 (.cells (arrOf 16 (u64f fun _ => 0)) 31)
            have r11_t9 := World.rowIs.alloc r10_t9 (.cells (arrOf 16 (u64f fun _ => 0)) 31)
            have B11 := B10.alloc (HGS.out _ B10) (.cells (arrOf 16 (u64f fun _ => 0)) 31)
            have r11_t10 := rowIs_arr w10 16 (u64f fun _ => 0) 31
            try simp only [World.size_alloc] at r11_t10
            clear B10))
    | (refine wpList_alloc_arr rfl 31 rfl (arrOf 16 (u64f fun _ => 0)) zeroFe ?_; try simp only [World.size_alloc])
    | (refine wpList_store_arr rfl 31 (.tmp 9) (.tmp 25) rfl 16 arrFe r8_t9 rfl rfl (by omega) (fun _ _ => rfl) ?_; intro x9 hr9 hg9 hs9
       have r9_t9 : x9.rowIs (w7.heap.size) 31 16 (feF A) := hr9.congr fun i hi => by unfold putN; rw [if_pos (by omega), Nat.sub_zero]
       have r9_t7 := gb_rowIs r8_t7 hg9 (Nat.ne_of_lt lt8_t7)
       have r9_t8 := gb_rowIs r8_t8 hg9 (Nat.ne_of_lt lt8_t8)
       have B9 := B8.grown hg9 (HGS.out _ B8) (by intro k hk; cases hk; exact g8)
       clear r8_t9 r8_t7 r8_t8 B8 hr9 hg9 hs9)
    | (refine wpList_store_arr rfl 31 (.tmp 10) (.tmp 27) rfl 16 arrFe r11_t10 rfl rfl (by omega) (fun _ _ => rfl) ?_; intro x12 hr12 hg12 hs12
       have r12_t10 : x12.rowIs (w10.heap.size) 31 16 (feF C) := hr12.congr fun i hi => by unfold putN; rw [if_pos (by omega), Nat.sub_zero]
       have r12_t7 := gb_rowIs r11_t7 hg12 (Nat.ne_of_lt lt11_t7)
       have r12_t8 := gb_rowIs r11_t8 hg12 (Nat.ne_of_lt lt11_t8)
       have r12_t9 := gb_rowIs r11_t9 hg12 (Nat.ne_of_lt lt11_t9)
       have B12 := B11.grown hg12 (HGS.out _ B11) (by intro k hk; cases hk; exact g11)
       clear r11_t10 r11_t7 r11_t8 r11_t9 B11 hr12 hg12 hs12)
    | (go_at_call 15; have hgo := B12; clear hgo; refine (HST.out _ _ (H0.out.below B12 (Nat.le_refl _))).mono ?_; rintro e w13 ⟨rfl, hb13⟩
       have r13_t7 := World.rowIs.of_block r12_t7 (hb13.block _ (World.rowIs.lt r12_t7))
       have r13_t8 := World.rowIs.of_block r12_t8 (hb13.block _ (World.rowIs.lt r12_t8))
       have r13_t9 := World.rowIs.of_block r12_t9 (hb13.block _ (World.rowIs.lt r12_t9))
       have r13_t10 := World.rowIs.of_block r12_t10 (hb13.block _ (World.rowIs.lt r12_t10))
       have B13 := B12.trans (hb13.mono (HGS.out _ B12))
       clear r12_t7 r12_t8 r12_t9 r12_t10 B12 hb13
       have lt14_t7 := World.rowIs.lt r13_t7
       try simp only [World.size_alloc] at lt14_t7
       have lt14_t8 := World.rowIs.lt r13_t8
       try simp only [World.size_alloc] at lt14_t8
       have lt14_t9 := World.rowIs.lt r13_t9
       try simp only [World.size_alloc] at lt14_t9
       have lt14_t10 := World.rowIs.lt r13_t10
       try simp only [World.size_alloc] at lt14_t10
       have g14 := HGS.out _ B13
       try simp only [World.size_alloc] at g14
       have r14_t7 := World.rowIs.alloc r13_t7 (.cells (arrOf 4 (u64f fun _ => 0)) 28)
       have r14_t8 := World.rowIs.alloc r13_t8 (.cells (arrOf 4 (u64f fun _ => 0)) 28)
       have r14_t9 := World.rowIs.alloc r13_t9 (.cells (arrOf 4 (u64f fun _ => 0)) 28)
       have r14_t10 := World.rowIs.alloc r13_t10 (.cells (arrOf 4 (u64f fun _ => 0)) 28)
       have B14 := B13.alloc (HGS.out _ B13) (.cells (arrOf 4 (u64f fun _ => 0)) 28)
       have r14_t11 := rowIs_arr w13 4 (u64f fun _ => 0) 28
       try simp only [World.size_alloc] at r14_t11
       clear B13)
    | (refine wpList_store_arr rfl 28 (.tmp 11) (.tmp 31) rfl 4 arrE r14_t11 rfl rfl (by omega) (fun _ _ => rfl) ?_; intro x15 hr15 hg15 hs15
       have r15_t11 : x15.rowIs (w13.heap.size) 28 4 (ewF T) := hr15.congr fun i hi => by unfold putN; rw [if_pos (by omega), Nat.sub_zero]
       have r15_t7 := gb_rowIs r14_t7 hg15 (Nat.ne_of_lt lt14_t7)
       have r15_t8 := gb_rowIs r14_t8 hg15 (Nat.ne_of_lt lt14_t8)
       have r15_t9 := gb_rowIs r14_t9 hg15 (Nat.ne_of_lt lt14_t9)
       have r15_t10 := gb_rowIs r14_t10 hg15 (Nat.ne_of_lt lt14_t10)
       have B15 := B14.grown hg15 (HGS.out _ B14) (by intro k hk; cases hk; exact g14)
       clear r14_t11 r14_t7 r14_t8 r14_t9 r14_t10 B14 hr15 hg15 hs15)
    | (go_at_call 16; have hgo := B15; clear hgo; refine (HSR.out _ _ (H0.out.below B15 (Nat.le_refl _))).mono ?_; rintro e w16 ⟨rfl, hb16⟩
       have r16_t7 := World.rowIs.of_block r15_t7 (hb16.block _ (World.rowIs.lt r15_t7))
       have r16_t8 := World.rowIs.of_block r15_t8 (hb16.block _ (World.rowIs.lt r15_t8))
       have r16_t9 := World.rowIs.of_block r15_t9 (hb16.block _ (World.rowIs.lt r15_t9))
       have r16_t10 := World.rowIs.of_block r15_t10 (hb16.block _ (World.rowIs.lt r15_t10))
       have r16_t11 := World.rowIs.of_block r15_t11 (hb16.block _ (World.rowIs.lt r15_t11))
       have B16 := B15.trans (hb16.mono (HGS.out _ B15))
       clear r15_t7 r15_t8 r15_t9 r15_t10 r15_t11 B15 hb16
       have lt17_t7 := World.rowIs.lt r16_t7
       try simp only [World.size_alloc] at lt17_t7
       have lt17_t8 := World.rowIs.lt r16_t8
       try simp only [World.size_alloc] at lt17_t8
       have lt17_t9 := World.rowIs.lt r16_t9
       try simp only [World.size_alloc] at lt17_t9
       have lt17_t10 := World.rowIs.lt r16_t10
       try simp only [World.size_alloc] at lt17_t10
       have lt17_t11 := World.rowIs.lt r16_t11
       try simp only [World.size_alloc] at lt17_t11
       have g17 := HGS.out _ B16
       try simp only [World.size_alloc] at g17
       have r17_t7 := World.rowIs.alloc r16_t7 (.cells (arrOf 16 (u64f fun _ => 0)) 31)
       have r17_t8 := World.rowIs.alloc r16_t8 (.cells (arrOf 16 (u64f fun _ => 0)) 31)
       have r17_t9 := World.rowIs.alloc r16_t9 (.cells (arrOf 16 (u64f fun _ => 0)) 31)
       have r17_t10 := World.rowIs.alloc r16_t10 (.cells (arrOf 16 (u64f fun _ => 0)) 31)
       have r17_t11 := World.rowIs.alloc r16_t11 (.cells (arrOf 16 (u64f fun _ => 0)) 31)
       have B17 := B16.alloc (HGS.out _ B16) (.cells (arrOf 16 (u64f fun _ => 0)) 31)
       have r17_t13 := rowIs_arr w16 16 (u64f fun _ => 0) 31
       try simp only [World.size_alloc] at r17_t13
       clear B16)
    | (refine wpList_store_arr rfl 31 (.tmp 13) (.tmp 36) rfl 16 arrFe r17_t13 rfl rfl (by omega) (fun _ _ => rfl) ?_; intro x18 hr18 hg18 hs18
       have r18_t13 : x18.rowIs (w16.heap.size) 31 16 (feF T) := hr18.congr fun i hi => by unfold putN; rw [if_pos (by omega), Nat.sub_zero]
       have r18_t7 := gb_rowIs r17_t7 hg18 (Nat.ne_of_lt lt17_t7)
       have r18_t8 := gb_rowIs r17_t8 hg18 (Nat.ne_of_lt lt17_t8)
       have r18_t9 := gb_rowIs r17_t9 hg18 (Nat.ne_of_lt lt17_t9)
       have r18_t10 := gb_rowIs r17_t10 hg18 (Nat.ne_of_lt lt17_t10)
       have r18_t11 := gb_rowIs r17_t11 hg18 (Nat.ne_of_lt lt17_t11)
       have B18 := B17.grown hg18 (HGS.out _ B17) (by intro k hk; cases hk; exact g17)
       clear r17_t13 r17_t7 r17_t8 r17_t9 r17_t10 r17_t11 B17 hr18 hg18 hs18))
  have B := B18.drew
  have rt7 := World.rowIs.drew r18_t7
  have rt8 := World.rowIs.drew r18_t8
  have rt9 := World.rowIs.drew r18_t9
  have rt10 := World.rowIs.drew r18_t10
  have rt11 := World.rowIs.drew r18_t11
  have rt13 := World.rowIs.drew r18_t13
  clear B18 r18_t7 r18_t8 r18_t9 r18_t10 r18_t11 r18_t13
  refine wp_region_lint (.rd 0 (.rd 1 (.wr 2 (.rd 3 (.rd 4 (.rd 5 (.wr 6 (.rd 7 (.rd 8 (.rd 9 (.rd 10 (.rd 11 (.rd 12 (.rd 13 (.rd 14 (.rd 16 (.wr 15 (.wr 17 (.wr 18 (.rd 19 (.rd 20 (.rd 21 (.rd 22 (.rd 24 (.rd 25 (.wr 23 (.wr 26 (.wr 27 (.rd 28 (.rd 29 (.rd 30 (.rd 31 (.rd 33 (.rd 34 (.wr 32 (.wr 35 (.wr 36 (.rd 37 (.rd 38 (.rd 39 (.rd 40 (.rd 42 (.rd 43 (.wr 41 (.wr 44 (.wr 45 (.rd 46 (.rd 47 (.rd 48 (.rd 50 (.wr 49 (.wr 51 (.wr 52 (.rd 53 (.rd 54 (.rd 55 (.rd 56 (.rd 58 (.rd 59 (.rd 60 (.wr 57 (.rd 61 (.rd 62 (.rd 63 (.rd 64 (.rd 66 (.rd 67 (.rd 68 (.rd 69 (.wr 65 (.rd 70 (.rd 71 (.rd 72 (.rd 73 (.rd 74 (.rd 76 (.wr 75 (.wr 77 (.rd 78 (.rd 79 (.rd 80 (.rd 81 (.rd 83 (.wr 82 (.wr 84 (.rd 85 (.rd 86 (.wr 87 (.rd 88 (.rd 89 .done)))))))))))))))))))))))))))))))))))))))))))))))))))))))))))))))))))))))))))))))))))))))))) (by kernel_rfl) (by kernel_rfl) (by decide) (lintOk_seg (l' := Array.replicate 20 true ++ Array.replicate 70 false) [(false, 0), (false, 1), (true, 2), (false, 3), (false, 4), (false, 5), (true, 6), (false, 7), (false, 8), (false, 9), (false, 10), (false, 11), (false, 12), (false, 13), (false, 14), (false, 16), (true, 15), (true, 17), (true, 18), (false, 19)] (by as_aux_lemma => kernel_rfl) (by as_aux_lemma => kernel_rfl) (lintOk_seg (l' := Array.replicate 38 true ++ Array.replicate 52 false) [(false, 20), (false, 21), (false, 22), (false, 24), (false, 25), (true, 23), (true, 26), (true, 27), (false, 28), (false, 29), (false, 30), (false, 31), (false, 33), (false, 34), (true, 32), (true, 35), (true, 36), (false, 37)] (by as_aux_lemma => kernel_rfl) (by as_aux_lemma => kernel_rfl) (lintOk_seg (l' := Array.replicate 54 true ++ Array.replicate 36 false) [(false, 38), (false, 39), (false, 40), (false, 42), (false, 43), (true, 41), (true, 44), (true, 45), (false, 46), (false, 47), (false, 48), (false, 50), (true, 49), (true, 51), (true, 52), (false, 53)] (by as_aux_lemma => kernel_rfl) (by as_aux_lemma => kernel_rfl) (lintOk_seg (l' := Array.replicate 72 true ++ Array.replicate 18 false) [(false, 54), (false, 55), (false, 56), (false, 58), (false, 59), (false, 60), (true, 57), (false, 61), (false, 62), (false, 63), (false, 64), (false, 66), (false, 67), (false, 68), (false, 69), (true, 65), (false, 70), (false, 71)] (by as_aux_lemma => kernel_rfl) (by as_aux_lemma => kernel_rfl) (lintOk_seg (l' := Array.replicate 90 true ++ Array.replicate 0 false) [(false, 72), (false, 73), (false, 74), (false, 76), (true, 75), (true, 77), (false, 78), (false, 79), (false, 80), (false, 81), (false, 83), (true, 82), (true, 84), (false, 85), (false, 86), (true, 87), (false, 88), (false, 89)] (by as_aux_lemma => kernel_rfl) (by as_aux_lemma => kernel_rfl) (by as_aux_lemma => kernel_rfl)))))) (fun d _ _ _ _ h => by cases d <;> exact h) ?_
  refine lint_pure 38 (Op.load 28 (Operand.tmp 7)) 28 (.agg (arrOf 4 fun i => ewF A (0 + i))) rfl rfl rfl rfl rfl (fun w0 hb0 => by exact exec_load_arr _ _ _ _ rfl arrE (World.rowIs.of_block rt7 (hb0.block _ (World.rowIs.lt rt7))) (by omega)) ?_
  simp only [Act.put, List.setIfInBounds_toArray, List.set_cons_zero, List.set_cons_succ, Nat.zero_add]
  refine lint_pure 39 (Op.load 31 (Operand.tmp 9)) 31 (.agg (arrOf 16 fun i => feF A (0 + i))) rfl rfl rfl rfl rfl (fun w0 hb0 => by exact exec_load_arr _ _ _ _ rfl arrFe (World.rowIs.of_block rt9 (hb0.block _ (World.rowIs.lt rt9))) (by omega)) ?_
  simp only [Act.put, List.setIfInBounds_toArray, List.set_cons_zero, List.set_cons_succ, Nat.zero_add]
  refine stp_fn 40 17 #[Operand.tmp 38, Operand.tmp 39] #[28, 31] _ (is5_any A _) rfl rfl rfl rfl Try.func17 (by kernel_rfl) (by kernel_rfl) (by go_simp) ?_
  rintro e w40 ⟨rfl, b40⟩
  replace B := B.trans (Below.mono b40 (HGS.out _ B))
  replace rt7 := World.rowIs.of_block rt7 (b40.block _ (World.rowIs.lt rt7))
  replace rt8 := World.rowIs.of_block rt8 (b40.block _ (World.rowIs.lt rt8))
  replace rt9 := World.rowIs.of_block rt9 (b40.block _ (World.rowIs.lt rt9))
  replace rt10 := World.rowIs.of_block rt10 (b40.block _ (World.rowIs.lt rt10))
  replace rt11 := World.rowIs.of_block rt11 (b40.block _ (World.rowIs.lt rt11))
  replace rt13 := World.rowIs.of_block rt13 (b40.block _ (World.rowIs.lt rt13))
  refine ⟨_, rfl, b40, ?_⟩
  simp only [Act.put, List.setIfInBounds_toArray, List.set_cons_zero, List.set_cons_succ, Nat.zero_add]
  refine lint_pure 41 (Op.move (Operand.tmp 40)) 4 _ rfl rfl rfl rfl rfl (fun w0 hb0 => by unfold mkOp; go_simp; all_goals (with_reducible rfl)) ?_
  simp only [Act.put, List.setIfInBounds_toArray, List.set_cons_zero, List.set_cons_succ, Nat.zero_add]
  refine lint_pure 42 (Op.load 28 (Operand.tmp 11)) 28 (.agg (arrOf 4 fun i => ewF T (0 + i))) rfl rfl rfl rfl rfl (fun w0 hb0 => by exact exec_load_arr _ _ _ _ rfl arrE (World.rowIs.of_block rt11 (hb0.block _ (World.rowIs.lt rt11))) (by omega)) ?_
  simp only [Act.put, List.setIfInBounds_toArray, List.set_cons_zero, List.set_cons_succ, Nat.zero_add]
  refine lint_pure 43 (Op.load 31 (Operand.tmp 13)) 31 (.agg (arrOf 16 fun i => feF T (0 + i))) rfl rfl rfl rfl rfl (fun w0 hb0 => by exact exec_load_arr _ _ _ _ rfl arrFe (World.rowIs.of_block rt13 (hb0.block _ (World.rowIs.lt rt13))) (by omega)) ?_
  simp only [Act.put, List.setIfInBounds_toArray, List.set_cons_zero, List.set_cons_succ, Nat.zero_add]
  refine stp_fn 44 17 #[Operand.tmp 42, Operand.tmp 43] #[28, 31] _ (is5_any T _) rfl rfl rfl rfl Try.func17 (by kernel_rfl) (by kernel_rfl) (by go_simp) ?_
  rintro e w44 ⟨rfl, b44⟩
  replace B := B.trans (Below.mono b44 (HGS.out _ B))
  replace rt7 := World.rowIs.of_block rt7 (b44.block _ (World.rowIs.lt rt7))
  replace rt8 := World.rowIs.of_block rt8 (b44.block _ (World.rowIs.lt rt8))
  replace rt9 := World.rowIs.of_block rt9 (b44.block _ (World.rowIs.lt rt9))
  replace rt10 := World.rowIs.of_block rt10 (b44.block _ (World.rowIs.lt rt10))
  replace rt11 := World.rowIs.of_block rt11 (b44.block _ (World.rowIs.lt rt11))
  replace rt13 := World.rowIs.of_block rt13 (b44.block _ (World.rowIs.lt rt13))
  refine ⟨_, rfl, b44, ?_⟩
  simp only [Act.put, List.setIfInBounds_toArray, List.set_cons_zero, List.set_cons_succ, Nat.zero_add]
  refine lint_pure 45 (Op.pick (Operand.tmp 41) (Operand.tmp 44) (Operand.const (Value.bool false))) 4 _ rfl rfl rfl rfl rfl (fun w0 hb0 => by unfold mkOp; go_simp; all_goals (with_reducible rfl)) ?_
  simp only [Act.put, List.setIfInBounds_toArray, List.set_cons_zero, List.set_cons_succ, Nat.zero_add]
  refine lint_pure 46 (Op.move (Operand.tmp 45)) 4 _ rfl rfl rfl rfl rfl (fun w0 hb0 => by unfold mkOp; go_simp; all_goals (with_reducible rfl)) ?_
  simp only [Act.put, List.setIfInBounds_toArray, List.set_cons_zero, List.set_cons_succ, Nat.zero_add]
  refine lint_pure 47 (Op.move (Operand.tmp 12)) 33 _ rfl rfl rfl rfl rfl (fun w0 hb0 => by unfold mkOp; go_simp; all_goals (with_reducible rfl)) ?_
  simp only [Act.put, List.setIfInBounds_toArray, List.set_cons_zero, List.set_cons_succ, Nat.zero_add]
  refine lint_pure 48 (Op.move (Operand.tmp 14)) 3 _ rfl rfl rfl rfl rfl (fun w0 hb0 => by unfold mkOp; go_simp; all_goals (with_reducible rfl)) ?_
  simp only [Act.put, List.setIfInBounds_toArray, List.set_cons_zero, List.set_cons_succ, Nat.zero_add]
  refine lint_pure 49 (Op.binOp BinOp.eql 3 (Operand.tmp 47) (Operand.tmp 48) 3) 4 _ rfl rfl rfl rfl rfl (fun w0 hb0 => by unfold mkOp; go_simp; all_goals (with_reducible rfl)) ?_
  simp only [Act.put, List.setIfInBounds_toArray, List.set_cons_zero, List.set_cons_succ, Nat.zero_add]
  refine lint_pure 50 (Op.pick (Operand.tmp 46) (Operand.tmp 49) (Operand.const (Value.bool false))) 4 _ rfl rfl rfl rfl rfl (fun w0 hb0 => by unfold mkOp; go_simp; all_goals (with_reducible rfl)) ?_
  simp only [Act.put, List.setIfInBounds_toArray, List.set_cons_zero, List.set_cons_succ, Nat.zero_add]
  refine lint_pure 51 (Op.move (Operand.tmp 50)) 4 _ rfl rfl rfl rfl rfl (fun w0 hb0 => by unfold mkOp; go_simp; all_goals (with_reducible rfl)) ?_
  simp only [Act.put, List.setIfInBounds_toArray, List.set_cons_zero, List.set_cons_succ, Nat.zero_add]
  refine lint_pure 52 (Op.move (Operand.tmp 2)) 23 _ rfl rfl rfl rfl rfl (fun w0 hb0 => by unfold mkOp; go_simp; all_goals (with_reducible rfl)) ?_
  simp only [Act.put, List.setIfInBounds_toArray, List.set_cons_zero, List.set_cons_succ, Nat.zero_add]
  refine lint_pure 54 (Op.move (Operand.tmp 2)) 23 _ rfl rfl rfl rfl rfl (fun w0 hb0 => by unfold mkOp; go_simp; all_goals (with_reducible rfl)) ?_
  simp only [Act.put, List.setIfInBounds_toArray, List.set_cons_zero, List.set_cons_succ, Nat.zero_add]
  refine stp_fn 53 18 #[Operand.tmp 52] #[23] _ (small_any n _ Ln.out) rfl rfl rfl rfl Try.func18 (by kernel_rfl) (by kernel_rfl) (by go_simp) ?_
  rintro e w53 ⟨rfl, b53⟩
  replace B := B.trans (Below.mono b53 (HGS.out _ B))
  replace rt7 := World.rowIs.of_block rt7 (b53.block _ (World.rowIs.lt rt7))
  replace rt8 := World.rowIs.of_block rt8 (b53.block _ (World.rowIs.lt rt8))
  replace rt9 := World.rowIs.of_block rt9 (b53.block _ (World.rowIs.lt rt9))
  replace rt10 := World.rowIs.of_block rt10 (b53.block _ (World.rowIs.lt rt10))
  replace rt11 := World.rowIs.of_block rt11 (b53.block _ (World.rowIs.lt rt11))
  replace rt13 := World.rowIs.of_block rt13 (b53.block _ (World.rowIs.lt rt13))
  refine ⟨_, rfl, b53, ?_⟩
  simp only [Act.put, List.setIfInBounds_toArray, List.set_cons_zero, List.set_cons_succ, Nat.zero_add]
  refine stp_fn 55 19 #[Operand.tmp 54] #[23] _ (refSmall_any n _ Ln.out) rfl rfl rfl rfl Try.func19 (by kernel_rfl) (by kernel_rfl) (by go_simp) ?_
  rintro e w55 ⟨rfl, b55⟩
  replace B := B.trans (Below.mono b55 (HGS.out _ B))
  replace rt7 := World.rowIs.of_block rt7 (b55.block _ (World.rowIs.lt rt7))
  replace rt8 := World.rowIs.of_block rt8 (b55.block _ (World.rowIs.lt rt8))
  replace rt9 := World.rowIs.of_block rt9 (b55.block _ (World.rowIs.lt rt9))
  replace rt10 := World.rowIs.of_block rt10 (b55.block _ (World.rowIs.lt rt10))
  replace rt11 := World.rowIs.of_block rt11 (b55.block _ (World.rowIs.lt rt11))
  replace rt13 := World.rowIs.of_block rt13 (b55.block _ (World.rowIs.lt rt13))
  refine ⟨_, rfl, b55, ?_⟩
  simp only [Act.put, List.setIfInBounds_toArray, List.set_cons_zero, List.set_cons_succ, Nat.zero_add]
  refine stp_fn 56 17 #[Operand.tmp 53, Operand.tmp 55] #[28, 31] _ (is5_any n _) rfl rfl rfl rfl Try.func17 (by kernel_rfl) (by kernel_rfl) (by go_simp) ?_
  rintro e w56 ⟨rfl, b56⟩
  replace B := B.trans (Below.mono b56 (HGS.out _ B))
  replace rt7 := World.rowIs.of_block rt7 (b56.block _ (World.rowIs.lt rt7))
  replace rt8 := World.rowIs.of_block rt8 (b56.block _ (World.rowIs.lt rt8))
  replace rt9 := World.rowIs.of_block rt9 (b56.block _ (World.rowIs.lt rt9))
  replace rt10 := World.rowIs.of_block rt10 (b56.block _ (World.rowIs.lt rt10))
  replace rt11 := World.rowIs.of_block rt11 (b56.block _ (World.rowIs.lt rt11))
  replace rt13 := World.rowIs.of_block rt13 (b56.block _ (World.rowIs.lt rt13))
  refine ⟨_, rfl, b56, ?_⟩
  simp only [Act.put, List.setIfInBounds_toArray, List.set_cons_zero, List.set_cons_succ, Nat.zero_add]
  refine lint_pure 57 (Op.pick (Operand.tmp 51) (Operand.tmp 56) (Operand.const (Value.bool false))) 4 _ rfl rfl rfl rfl rfl (fun w0 hb0 => by unfold mkOp; go_simp; all_goals (with_reducible rfl)) ?_
  simp only [Act.put, List.setIfInBounds_toArray, List.set_cons_zero, List.set_cons_succ, Nat.zero_add]
  refine lint_pure 58 (Op.move (Operand.tmp 57)) 4 _ rfl rfl rfl rfl rfl (fun w0 hb0 => by unfold mkOp; go_simp; all_goals (with_reducible rfl)) ?_
  simp only [Act.put, List.setIfInBounds_toArray, List.set_cons_zero, List.set_cons_succ, Nat.zero_add]
  refine lint_pure 59 (Op.load 28 (Operand.tmp 7)) 28 (.agg (arrOf 4 fun i => ewF A (0 + i))) rfl rfl rfl rfl rfl (fun w0 hb0 => by exact exec_load_arr _ _ _ _ rfl arrE (World.rowIs.of_block rt7 (hb0.block _ (World.rowIs.lt rt7))) (by omega)) ?_
  simp only [Act.put, List.setIfInBounds_toArray, List.set_cons_zero, List.set_cons_succ, Nat.zero_add]
  refine lint_pure 60 (Op.load 28 (Operand.tmp 8)) 28 (.agg (arrOf 4 fun i => ewF C (0 + i))) rfl rfl rfl rfl rfl (fun w0 hb0 => by exact exec_load_arr _ _ _ _ rfl arrE (World.rowIs.of_block rt8 (hb0.block _ (World.rowIs.lt rt8))) (by omega)) ?_
  simp only [Act.put, List.setIfInBounds_toArray, List.set_cons_zero, List.set_cons_succ, Nat.zero_add]
  refine lint_pure 62 (Op.load 31 (Operand.tmp 9)) 31 (.agg (arrOf 16 fun i => feF A (0 + i))) rfl rfl rfl rfl rfl (fun w0 hb0 => by exact exec_load_arr _ _ _ _ rfl arrFe (World.rowIs.of_block rt9 (hb0.block _ (World.rowIs.lt rt9))) (by omega)) ?_
  simp only [Act.put, List.setIfInBounds_toArray, List.set_cons_zero, List.set_cons_succ, Nat.zero_add]
  refine lint_pure 63 (Op.load 31 (Operand.tmp 10)) 31 (.agg (arrOf 16 fun i => feF C (0 + i))) rfl rfl rfl rfl rfl (fun w0 hb0 => by exact exec_load_arr _ _ _ _ rfl arrFe (World.rowIs.of_block rt10 (hb0.block _ (World.rowIs.lt rt10))) (by omega)) ?_
  simp only [Act.put, List.setIfInBounds_toArray, List.set_cons_zero, List.set_cons_succ, Nat.zero_add]
  refine stp_fn 61 20 #[Operand.tmp 59, Operand.tmp 60] #[28, 28] _ (add_any A C _ HA.out HC.out) rfl rfl rfl rfl Try.func20 (by kernel_rfl) (by kernel_rfl) (by go_simp) ?_
  rintro e w61 ⟨rfl, b61⟩
  replace B := B.trans (Below.mono b61 (HGS.out _ B))
  replace rt7 := World.rowIs.of_block rt7 (b61.block _ (World.rowIs.lt rt7))
  replace rt8 := World.rowIs.of_block rt8 (b61.block _ (World.rowIs.lt rt8))
  replace rt9 := World.rowIs.of_block rt9 (b61.block _ (World.rowIs.lt rt9))
  replace rt10 := World.rowIs.of_block rt10 (b61.block _ (World.rowIs.lt rt10))
  replace rt11 := World.rowIs.of_block rt11 (b61.block _ (World.rowIs.lt rt11))
  replace rt13 := World.rowIs.of_block rt13 (b61.block _ (World.rowIs.lt rt13))
  refine ⟨_, rfl, b61, ?_⟩
  simp only [Act.put, List.setIfInBounds_toArray, List.set_cons_zero, List.set_cons_succ, Nat.zero_add]
  refine stp_fn 64 21 #[Operand.tmp 62, Operand.tmp 63] #[31, 31] _ (refAdd5_any A C _ HA.out HC.out) rfl rfl rfl rfl Try.func21 (by kernel_rfl) (by kernel_rfl) (by go_simp) ?_
  rintro e w64 ⟨rfl, b64⟩
  replace B := B.trans (Below.mono b64 (HGS.out _ B))
  replace rt7 := World.rowIs.of_block rt7 (b64.block _ (World.rowIs.lt rt7))
  replace rt8 := World.rowIs.of_block rt8 (b64.block _ (World.rowIs.lt rt8))
  replace rt9 := World.rowIs.of_block rt9 (b64.block _ (World.rowIs.lt rt9))
  replace rt10 := World.rowIs.of_block rt10 (b64.block _ (World.rowIs.lt rt10))
  replace rt11 := World.rowIs.of_block rt11 (b64.block _ (World.rowIs.lt rt11))
  replace rt13 := World.rowIs.of_block rt13 (b64.block _ (World.rowIs.lt rt13))
  refine ⟨_, rfl, b64, ?_⟩
  simp only [Act.put, List.setIfInBounds_toArray, List.set_cons_zero, List.set_cons_succ, Nat.zero_add]
  refine stp_fn 65 17 #[Operand.tmp 61, Operand.tmp 64] #[28, 31] _ (is5_any (addP A C) _) rfl rfl rfl rfl Try.func17 (by kernel_rfl) (by kernel_rfl) (by go_simp) ?_
  rintro e w65 ⟨rfl, b65⟩
  replace B := B.trans (Below.mono b65 (HGS.out _ B))
  replace rt7 := World.rowIs.of_block rt7 (b65.block _ (World.rowIs.lt rt7))
  replace rt8 := World.rowIs.of_block rt8 (b65.block _ (World.rowIs.lt rt8))
  replace rt9 := World.rowIs.of_block rt9 (b65.block _ (World.rowIs.lt rt9))
  replace rt10 := World.rowIs.of_block rt10 (b65.block _ (World.rowIs.lt rt10))
  replace rt11 := World.rowIs.of_block rt11 (b65.block _ (World.rowIs.lt rt11))
  replace rt13 := World.rowIs.of_block rt13 (b65.block _ (World.rowIs.lt rt13))
  refine ⟨_, rfl, b65, ?_⟩
  simp only [Act.put, List.setIfInBounds_toArray, List.set_cons_zero, List.set_cons_succ, Nat.zero_add]
  refine lint_pure 66 (Op.pick (Operand.tmp 58) (Operand.tmp 65) (Operand.const (Value.bool false))) 4 _ rfl rfl rfl rfl rfl (fun w0 hb0 => by unfold mkOp; go_simp; all_goals (with_reducible rfl)) ?_
  simp only [Act.put, List.setIfInBounds_toArray, List.set_cons_zero, List.set_cons_succ, Nat.zero_add]
  refine lint_pure 67 (Op.move (Operand.tmp 66)) 4 _ rfl rfl rfl rfl rfl (fun w0 hb0 => by unfold mkOp; go_simp; all_goals (with_reducible rfl)) ?_
  simp only [Act.put, List.setIfInBounds_toArray, List.set_cons_zero, List.set_cons_succ, Nat.zero_add]
  refine lint_pure 68 (Op.load 28 (Operand.tmp 7)) 28 (.agg (arrOf 4 fun i => ewF A (0 + i))) rfl rfl rfl rfl rfl (fun w0 hb0 => by exact exec_load_arr _ _ _ _ rfl arrE (World.rowIs.of_block rt7 (hb0.block _ (World.rowIs.lt rt7))) (by omega)) ?_
  simp only [Act.put, List.setIfInBounds_toArray, List.set_cons_zero, List.set_cons_succ, Nat.zero_add]
  refine lint_pure 69 (Op.load 28 (Operand.tmp 8)) 28 (.agg (arrOf 4 fun i => ewF C (0 + i))) rfl rfl rfl rfl rfl (fun w0 hb0 => by exact exec_load_arr _ _ _ _ rfl arrE (World.rowIs.of_block rt8 (hb0.block _ (World.rowIs.lt rt8))) (by omega)) ?_
  simp only [Act.put, List.setIfInBounds_toArray, List.set_cons_zero, List.set_cons_succ, Nat.zero_add]
  refine lint_pure 71 (Op.load 31 (Operand.tmp 9)) 31 (.agg (arrOf 16 fun i => feF A (0 + i))) rfl rfl rfl rfl rfl (fun w0 hb0 => by exact exec_load_arr _ _ _ _ rfl arrFe (World.rowIs.of_block rt9 (hb0.block _ (World.rowIs.lt rt9))) (by omega)) ?_
  simp only [Act.put, List.setIfInBounds_toArray, List.set_cons_zero, List.set_cons_succ, Nat.zero_add]
  refine lint_pure 72 (Op.load 31 (Operand.tmp 10)) 31 (.agg (arrOf 16 fun i => feF C (0 + i))) rfl rfl rfl rfl rfl (fun w0 hb0 => by exact exec_load_arr _ _ _ _ rfl arrFe (World.rowIs.of_block rt10 (hb0.block _ (World.rowIs.lt rt10))) (by omega)) ?_
  simp only [Act.put, List.setIfInBounds_toArray, List.set_cons_zero, List.set_cons_succ, Nat.zero_add]
  refine stp_fn 70 22 #[Operand.tmp 68, Operand.tmp 69] #[28, 28] _ (sub_any A C _ HA.out HC.out) rfl rfl rfl rfl Try.func22 (by kernel_rfl) (by kernel_rfl) (by go_simp) ?_
  rintro e w70 ⟨rfl, b70⟩
  replace B := B.trans (Below.mono b70 (HGS.out _ B))
  replace rt7 := World.rowIs.of_block rt7 (b70.block _ (World.rowIs.lt rt7))
  replace rt8 := World.rowIs.of_block rt8 (b70.block _ (World.rowIs.lt rt8))
  replace rt9 := World.rowIs.of_block rt9 (b70.block _ (World.rowIs.lt rt9))
  replace rt10 := World.rowIs.of_block rt10 (b70.block _ (World.rowIs.lt rt10))
  replace rt11 := World.rowIs.of_block rt11 (b70.block _ (World.rowIs.lt rt11))
  replace rt13 := World.rowIs.of_block rt13 (b70.block _ (World.rowIs.lt rt13))
  refine ⟨_, rfl, b70, ?_⟩
  simp only [Act.put, List.setIfInBounds_toArray, List.set_cons_zero, List.set_cons_succ, Nat.zero_add]
  refine stp_fn 73 23 #[Operand.tmp 71, Operand.tmp 72] #[31, 31] _ (refSub_any A C _ HA.out HC.out) rfl rfl rfl rfl Try.func23 (by kernel_rfl) (by kernel_rfl) (by go_simp) ?_
  rintro e w73 ⟨rfl, b73⟩
  replace B := B.trans (Below.mono b73 (HGS.out _ B))
  replace rt7 := World.rowIs.of_block rt7 (b73.block _ (World.rowIs.lt rt7))
  replace rt8 := World.rowIs.of_block rt8 (b73.block _ (World.rowIs.lt rt8))
  replace rt9 := World.rowIs.of_block rt9 (b73.block _ (World.rowIs.lt rt9))
  replace rt10 := World.rowIs.of_block rt10 (b73.block _ (World.rowIs.lt rt10))
  replace rt11 := World.rowIs.of_block rt11 (b73.block _ (World.rowIs.lt rt11))
  replace rt13 := World.rowIs.of_block rt13 (b73.block _ (World.rowIs.lt rt13))
  refine ⟨_, rfl, b73, ?_⟩
  simp only [Act.put, List.setIfInBounds_toArray, List.set_cons_zero, List.set_cons_succ, Nat.zero_add]
  refine stp_fn 74 17 #[Operand.tmp 70, Operand.tmp 73] #[28, 31] _ (is5_any (subP p25 A C) _) rfl rfl rfl rfl Try.func17 (by kernel_rfl) (by kernel_rfl) (by go_simp) ?_
  rintro e w74 ⟨rfl, b74⟩
  replace B := B.trans (Below.mono b74 (HGS.out _ B))
  replace rt7 := World.rowIs.of_block rt7 (b74.block _ (World.rowIs.lt rt7))
  replace rt8 := World.rowIs.of_block rt8 (b74.block _ (World.rowIs.lt rt8))
  replace rt9 := World.rowIs.of_block rt9 (b74.block _ (World.rowIs.lt rt9))
  replace rt10 := World.rowIs.of_block rt10 (b74.block _ (World.rowIs.lt rt10))
  replace rt11 := World.rowIs.of_block rt11 (b74.block _ (World.rowIs.lt rt11))
  replace rt13 := World.rowIs.of_block rt13 (b74.block _ (World.rowIs.lt rt13))
  refine ⟨_, rfl, b74, ?_⟩
  simp only [Act.put, List.setIfInBounds_toArray, List.set_cons_zero, List.set_cons_succ, Nat.zero_add]
  refine lint_pure 75 (Op.pick (Operand.tmp 67) (Operand.tmp 74) (Operand.const (Value.bool false))) 4 _ rfl rfl rfl rfl rfl (fun w0 hb0 => by unfold mkOp; go_simp; all_goals (with_reducible rfl)) ?_
  simp only [Act.put, List.setIfInBounds_toArray, List.set_cons_zero, List.set_cons_succ, Nat.zero_add]
  refine lint_pure 76 (Op.move (Operand.tmp 75)) 4 _ rfl rfl rfl rfl rfl (fun w0 hb0 => by unfold mkOp; go_simp; all_goals (with_reducible rfl)) ?_
  simp only [Act.put, List.setIfInBounds_toArray, List.set_cons_zero, List.set_cons_succ, Nat.zero_add]
  refine lint_pure 77 (Op.load 28 (Operand.tmp 7)) 28 (.agg (arrOf 4 fun i => ewF A (0 + i))) rfl rfl rfl rfl rfl (fun w0 hb0 => by exact exec_load_arr _ _ _ _ rfl arrE (World.rowIs.of_block rt7 (hb0.block _ (World.rowIs.lt rt7))) (by omega)) ?_
  simp only [Act.put, List.setIfInBounds_toArray, List.set_cons_zero, List.set_cons_succ, Nat.zero_add]
  refine lint_pure 78 (Op.load 28 (Operand.tmp 8)) 28 (.agg (arrOf 4 fun i => ewF C (0 + i))) rfl rfl rfl rfl rfl (fun w0 hb0 => by exact exec_load_arr _ _ _ _ rfl arrE (World.rowIs.of_block rt8 (hb0.block _ (World.rowIs.lt rt8))) (by omega)) ?_
  simp only [Act.put, List.setIfInBounds_toArray, List.set_cons_zero, List.set_cons_succ, Nat.zero_add]
  refine lint_pure 80 (Op.load 31 (Operand.tmp 9)) 31 (.agg (arrOf 16 fun i => feF A (0 + i))) rfl rfl rfl rfl rfl (fun w0 hb0 => by exact exec_load_arr _ _ _ _ rfl arrFe (World.rowIs.of_block rt9 (hb0.block _ (World.rowIs.lt rt9))) (by omega)) ?_
  simp only [Act.put, List.setIfInBounds_toArray, List.set_cons_zero, List.set_cons_succ, Nat.zero_add]
  refine lint_pure 81 (Op.load 31 (Operand.tmp 10)) 31 (.agg (arrOf 16 fun i => feF C (0 + i))) rfl rfl rfl rfl rfl (fun w0 hb0 => by exact exec_load_arr _ _ _ _ rfl arrFe (World.rowIs.of_block rt10 (hb0.block _ (World.rowIs.lt rt10))) (by omega)) ?_
  simp only [Act.put, List.setIfInBounds_toArray, List.set_cons_zero, List.set_cons_succ, Nat.zero_add]
  refine stp_fn 79 24 #[Operand.tmp 77, Operand.tmp 78] #[28, 28] _ (mul_any A C _ HA.out HC.out) rfl rfl rfl rfl Try.func24 (by kernel_rfl) (by kernel_rfl) (by go_simp) ?_
  rintro e w79 ⟨rfl, b79⟩
  replace B := B.trans (Below.mono b79 (HGS.out _ B))
  replace rt7 := World.rowIs.of_block rt7 (b79.block _ (World.rowIs.lt rt7))
  replace rt8 := World.rowIs.of_block rt8 (b79.block _ (World.rowIs.lt rt8))
  replace rt9 := World.rowIs.of_block rt9 (b79.block _ (World.rowIs.lt rt9))
  replace rt10 := World.rowIs.of_block rt10 (b79.block _ (World.rowIs.lt rt10))
  replace rt11 := World.rowIs.of_block rt11 (b79.block _ (World.rowIs.lt rt11))
  replace rt13 := World.rowIs.of_block rt13 (b79.block _ (World.rowIs.lt rt13))
  refine ⟨_, rfl, b79, ?_⟩
  simp only [Act.put, List.setIfInBounds_toArray, List.set_cons_zero, List.set_cons_succ, Nat.zero_add]
  refine stp_fn 82 25 #[Operand.tmp 80, Operand.tmp 81] #[31, 31] _ (refMul5_any A C _ HA.out HC.out) rfl rfl rfl rfl Try.func25 (by kernel_rfl) (by kernel_rfl) (by go_simp) ?_
  rintro e w82 ⟨rfl, b82⟩
  replace B := B.trans (Below.mono b82 (HGS.out _ B))
  replace rt7 := World.rowIs.of_block rt7 (b82.block _ (World.rowIs.lt rt7))
  replace rt8 := World.rowIs.of_block rt8 (b82.block _ (World.rowIs.lt rt8))
  replace rt9 := World.rowIs.of_block rt9 (b82.block _ (World.rowIs.lt rt9))
  replace rt10 := World.rowIs.of_block rt10 (b82.block _ (World.rowIs.lt rt10))
  replace rt11 := World.rowIs.of_block rt11 (b82.block _ (World.rowIs.lt rt11))
  replace rt13 := World.rowIs.of_block rt13 (b82.block _ (World.rowIs.lt rt13))
  refine ⟨_, rfl, b82, ?_⟩
  simp only [Act.put, List.setIfInBounds_toArray, List.set_cons_zero, List.set_cons_succ, Nat.zero_add]
  refine stp_fn 83 17 #[Operand.tmp 79, Operand.tmp 82] #[28, 31] _ (is5_any (mulP A C) _) rfl rfl rfl rfl Try.func17 (by kernel_rfl) (by kernel_rfl) (by go_simp) ?_
  rintro e w83 ⟨rfl, b83⟩
  replace B := B.trans (Below.mono b83 (HGS.out _ B))
  replace rt7 := World.rowIs.of_block rt7 (b83.block _ (World.rowIs.lt rt7))
  replace rt8 := World.rowIs.of_block rt8 (b83.block _ (World.rowIs.lt rt8))
  replace rt9 := World.rowIs.of_block rt9 (b83.block _ (World.rowIs.lt rt9))
  replace rt10 := World.rowIs.of_block rt10 (b83.block _ (World.rowIs.lt rt10))
  replace rt11 := World.rowIs.of_block rt11 (b83.block _ (World.rowIs.lt rt11))
  replace rt13 := World.rowIs.of_block rt13 (b83.block _ (World.rowIs.lt rt13))
  refine ⟨_, rfl, b83, ?_⟩
  simp only [Act.put, List.setIfInBounds_toArray, List.set_cons_zero, List.set_cons_succ, Nat.zero_add]
  refine lint_pure 84 (Op.pick (Operand.tmp 76) (Operand.tmp 83) (Operand.const (Value.bool false))) 4 _ rfl rfl rfl rfl rfl (fun w0 hb0 => by unfold mkOp; go_simp; all_goals (with_reducible rfl)) ?_
  simp only [Act.put, List.setIfInBounds_toArray, List.set_cons_zero, List.set_cons_succ, Nat.zero_add]
  refine lint_pure 85 (Op.move (Operand.tmp 84)) 4 _ rfl rfl rfl rfl rfl (fun w0 hb0 => by unfold mkOp; go_simp; all_goals (with_reducible rfl)) ?_
  simp only [Act.put, List.setIfInBounds_toArray, List.set_cons_zero, List.set_cons_succ, Nat.zero_add]
  refine lint_pure 86 (Op.load 28 (Operand.tmp 7)) 28 (.agg (arrOf 4 fun i => ewF A (0 + i))) rfl rfl rfl rfl rfl (fun w0 hb0 => by exact exec_load_arr _ _ _ _ rfl arrE (World.rowIs.of_block rt7 (hb0.block _ (World.rowIs.lt rt7))) (by omega)) ?_
  simp only [Act.put, List.setIfInBounds_toArray, List.set_cons_zero, List.set_cons_succ, Nat.zero_add]
  refine lint_pure 88 (Op.load 31 (Operand.tmp 9)) 31 (.agg (arrOf 16 fun i => feF A (0 + i))) rfl rfl rfl rfl rfl (fun w0 hb0 => by exact exec_load_arr _ _ _ _ rfl arrFe (World.rowIs.of_block rt9 (hb0.block _ (World.rowIs.lt rt9))) (by omega)) ?_
  simp only [Act.put, List.setIfInBounds_toArray, List.set_cons_zero, List.set_cons_succ, Nat.zero_add]
  refine stp_fn 87 26 #[Operand.tmp 86] #[28] _ (neg_any A _ HA.out) rfl rfl rfl rfl Try.func26 (by kernel_rfl) (by kernel_rfl) (by go_simp) ?_
  rintro e w87 ⟨rfl, b87⟩
  replace B := B.trans (Below.mono b87 (HGS.out _ B))
  replace rt7 := World.rowIs.of_block rt7 (b87.block _ (World.rowIs.lt rt7))
  replace rt8 := World.rowIs.of_block rt8 (b87.block _ (World.rowIs.lt rt8))
  replace rt9 := World.rowIs.of_block rt9 (b87.block _ (World.rowIs.lt rt9))
  replace rt10 := World.rowIs.of_block rt10 (b87.block _ (World.rowIs.lt rt10))
  replace rt11 := World.rowIs.of_block rt11 (b87.block _ (World.rowIs.lt rt11))
  replace rt13 := World.rowIs.of_block rt13 (b87.block _ (World.rowIs.lt rt13))
  refine ⟨_, rfl, b87, ?_⟩
  simp only [Act.put, List.setIfInBounds_toArray, List.set_cons_zero, List.set_cons_succ, Nat.zero_add]
  refine stp_fn 89 27 #[Operand.tmp 88] #[31] _ (refNeg5_any A _ HA.out) rfl rfl rfl rfl Try.func27 (by kernel_rfl) (by kernel_rfl) (by go_simp) ?_
  rintro e w89 ⟨rfl, b89⟩
  replace B := B.trans (Below.mono b89 (HGS.out _ B))
  replace rt7 := World.rowIs.of_block rt7 (b89.block _ (World.rowIs.lt rt7))
  replace rt8 := World.rowIs.of_block rt8 (b89.block _ (World.rowIs.lt rt8))
  replace rt9 := World.rowIs.of_block rt9 (b89.block _ (World.rowIs.lt rt9))
  replace rt10 := World.rowIs.of_block rt10 (b89.block _ (World.rowIs.lt rt10))
  replace rt11 := World.rowIs.of_block rt11 (b89.block _ (World.rowIs.lt rt11))
  replace rt13 := World.rowIs.of_block rt13 (b89.block _ (World.rowIs.lt rt13))
  refine ⟨_, rfl, b89, ?_⟩
  simp only [Act.put, List.setIfInBounds_toArray, List.set_cons_zero, List.set_cons_succ, Nat.zero_add]
  refine stp_fn 90 17 #[Operand.tmp 87, Operand.tmp 89] #[28, 31] _ (is5_any (oppP A) _) rfl rfl rfl rfl Try.func17 (by kernel_rfl) (by kernel_rfl) (by go_simp) ?_
  rintro e w90 ⟨rfl, b90⟩
  replace B := B.trans (Below.mono b90 (HGS.out _ B))
  replace rt7 := World.rowIs.of_block rt7 (b90.block _ (World.rowIs.lt rt7))
  replace rt8 := World.rowIs.of_block rt8 (b90.block _ (World.rowIs.lt rt8))
  replace rt9 := World.rowIs.of_block rt9 (b90.block _ (World.rowIs.lt rt9))
  replace rt10 := World.rowIs.of_block rt10 (b90.block _ (World.rowIs.lt rt10))
  replace rt11 := World.rowIs.of_block rt11 (b90.block _ (World.rowIs.lt rt11))
  replace rt13 := World.rowIs.of_block rt13 (b90.block _ (World.rowIs.lt rt13))
  refine ⟨_, rfl, b90, ?_⟩
  simp only [Act.put, List.setIfInBounds_toArray, List.set_cons_zero, List.set_cons_succ, Nat.zero_add]
  refine lint_pure 91 (Op.pick (Operand.tmp 85) (Operand.tmp 90) (Operand.const (Value.bool false))) 4 _ rfl rfl rfl rfl rfl (fun w0 hb0 => by unfold mkOp; go_simp; all_goals (with_reducible rfl)) ?_
  simp only [Act.put, List.setIfInBounds_toArray, List.set_cons_zero, List.set_cons_succ, Nat.zero_add]
  refine lint_pure 92 (Op.move (Operand.tmp 91)) 4 _ rfl rfl rfl rfl rfl (fun w0 hb0 => by unfold mkOp; go_simp; all_goals (with_reducible rfl)) ?_
  simp only [Act.put, List.setIfInBounds_toArray, List.set_cons_zero, List.set_cons_succ, Nat.zero_add]
  refine lint_pure 93 (Op.load 28 (Operand.tmp 7)) 28 (.agg (arrOf 4 fun i => ewF A (0 + i))) rfl rfl rfl rfl rfl (fun w0 hb0 => by exact exec_load_arr _ _ _ _ rfl arrE (World.rowIs.of_block rt7 (hb0.block _ (World.rowIs.lt rt7))) (by omega)) ?_
  simp only [Act.put, List.setIfInBounds_toArray, List.set_cons_zero, List.set_cons_succ, Nat.zero_add]
  refine lint_pure 94 (Op.load 28 (Operand.tmp 8)) 28 (.agg (arrOf 4 fun i => ewF C (0 + i))) rfl rfl rfl rfl rfl (fun w0 hb0 => by exact exec_load_arr _ _ _ _ rfl arrE (World.rowIs.of_block rt8 (hb0.block _ (World.rowIs.lt rt8))) (by omega)) ?_
  simp only [Act.put, List.setIfInBounds_toArray, List.set_cons_zero, List.set_cons_succ, Nat.zero_add]
  refine lint_pure 96 (Op.load 31 (Operand.tmp 9)) 31 (.agg (arrOf 16 fun i => feF A (0 + i))) rfl rfl rfl rfl rfl (fun w0 hb0 => by exact exec_load_arr _ _ _ _ rfl arrFe (World.rowIs.of_block rt9 (hb0.block _ (World.rowIs.lt rt9))) (by omega)) ?_
  simp only [Act.put, List.setIfInBounds_toArray, List.set_cons_zero, List.set_cons_succ, Nat.zero_add]
  refine lint_pure 97 (Op.load 31 (Operand.tmp 10)) 31 (.agg (arrOf 16 fun i => feF C (0 + i))) rfl rfl rfl rfl rfl (fun w0 hb0 => by exact exec_load_arr _ _ _ _ rfl arrFe (World.rowIs.of_block rt10 (hb0.block _ (World.rowIs.lt rt10))) (by omega)) ?_
  simp only [Act.put, List.setIfInBounds_toArray, List.set_cons_zero, List.set_cons_succ, Nat.zero_add]
  refine lint_pure 98 (Op.binOp BinOp.eql 31 (Operand.tmp 96) (Operand.tmp 97) 31) 4 (.bool o1) rfl rfl rfl rfl rfl (fun w0 hb0 => by exact exec_Fe_eql _ _ _ _ HA.out HC.out O1.out rfl rfl) ?_
  simp only [Act.put, List.setIfInBounds_toArray, List.set_cons_zero, List.set_cons_succ, Nat.zero_add]
  refine stp_fn 95 28 #[Operand.tmp 93, Operand.tmp 94] #[28, 28] _ (same5_is A C o1 _ HA.out HC.out O1.out) rfl rfl rfl rfl Try.func28 (by kernel_rfl) (by kernel_rfl) (by go_simp) ?_
  rintro e w95 ⟨rfl, b95⟩
  replace B := B.trans (Below.mono b95 (HGS.out _ B))
  replace rt7 := World.rowIs.of_block rt7 (b95.block _ (World.rowIs.lt rt7))
  replace rt8 := World.rowIs.of_block rt8 (b95.block _ (World.rowIs.lt rt8))
  replace rt9 := World.rowIs.of_block rt9 (b95.block _ (World.rowIs.lt rt9))
  replace rt10 := World.rowIs.of_block rt10 (b95.block _ (World.rowIs.lt rt10))
  replace rt11 := World.rowIs.of_block rt11 (b95.block _ (World.rowIs.lt rt11))
  replace rt13 := World.rowIs.of_block rt13 (b95.block _ (World.rowIs.lt rt13))
  refine ⟨_, rfl, b95, ?_⟩
  simp only [Act.put, List.setIfInBounds_toArray, List.set_cons_zero, List.set_cons_succ, Nat.zero_add]
  refine lint_pure 99 (Op.binOp BinOp.eql 4 (Operand.tmp 95) (Operand.tmp 98) 4) 4 (.bool true) rfl rfl rfl rfl rfl (fun w0 hb0 => by exact exec_bool_eql _ _ _ _ rfl rfl) ?_
  simp only [Act.put, List.setIfInBounds_toArray, List.set_cons_zero, List.set_cons_succ, Nat.zero_add]
  refine lint_pure 100 (Op.pick (Operand.tmp 92) (Operand.tmp 99) (Operand.const (Value.bool false))) 4 _ rfl rfl rfl rfl rfl (fun w0 hb0 => by unfold mkOp; go_simp; all_goals (with_reducible rfl)) ?_
  simp only [Act.put, List.setIfInBounds_toArray, List.set_cons_zero, List.set_cons_succ, Nat.zero_add]
  refine lint_pure 101 (Op.move (Operand.tmp 100)) 4 _ rfl rfl rfl rfl rfl (fun w0 hb0 => by unfold mkOp; go_simp; all_goals (with_reducible rfl)) ?_
  simp only [Act.put, List.setIfInBounds_toArray, List.set_cons_zero, List.set_cons_succ, Nat.zero_add]
  refine lint_pure 102 (Op.load 28 (Operand.tmp 7)) 28 (.agg (arrOf 4 fun i => ewF A (0 + i))) rfl rfl rfl rfl rfl (fun w0 hb0 => by exact exec_load_arr _ _ _ _ rfl arrE (World.rowIs.of_block rt7 (hb0.block _ (World.rowIs.lt rt7))) (by omega)) ?_
  simp only [Act.put, List.setIfInBounds_toArray, List.set_cons_zero, List.set_cons_succ, Nat.zero_add]
  refine lint_pure 104 (Op.indexAddr 31 (Operand.tmp 9) (Operand.const (Value.int IntKind.i64 0))) 0 _ rfl rfl rfl rfl rfl (fun w0 hb0 => by unfold mkOp; go_simp; all_goals (with_reducible rfl)) ?_
  simp only [Act.put, List.setIfInBounds_toArray, List.set_cons_zero, List.set_cons_succ, Nat.zero_add]
  refine lint_pure 105 (Op.load 23 (Operand.tmp 104)) 23 (.int .u64 ((dig A 0 : Nat) : Int)) rfl rfl rfl rfl rfl (fun w0 hb0 => by exact exec_load_cell _ _ _ _ rfl (by kernel_rfl) ((World.rowIs.of_block rt9 (hb0.block _ (World.rowIs.lt rt9))).cell (i := 0) (by omega))) ?_
  simp only [Act.put, List.setIfInBounds_toArray, List.set_cons_zero, List.set_cons_succ, Nat.zero_add]
  refine lint_pure 106 (Op.binOp BinOp.and 23 (Operand.tmp 105) (Operand.const (Value.int IntKind.u64 1)) 23) 23 (.int .u64 ((dig A 0 % 2 : Nat) : Int)) rfl rfl rfl rfl rfl (fun w0 hb0 => by exact exec_and_one _ _ _ _ D0.out rfl rfl) ?_
  simp only [Act.put, List.setIfInBounds_toArray, List.set_cons_zero, List.set_cons_succ, Nat.zero_add]
  refine lint_pure 107 (Op.binOp BinOp.eql 23 (Operand.tmp 106) (Operand.const (Value.int IntKind.u64 1)) 23) 4 (.bool o2) rfl rfl rfl rfl rfl (fun w0 hb0 => by exact exec_u64_eql (b := 1) _ _ _ _ rfl rfl O3.out) ?_
  simp only [Act.put, List.setIfInBounds_toArray, List.set_cons_zero, List.set_cons_succ, Nat.zero_add]
  refine stp_fn 103 29 #[Operand.tmp 102] #[28] _ (odd5_is A o2 _ O2.out) rfl rfl rfl rfl Try.func29 (by kernel_rfl) (by kernel_rfl) (by go_simp) ?_
  rintro e w103 ⟨rfl, b103⟩
  replace B := B.trans (Below.mono b103 (HGS.out _ B))
  replace rt7 := World.rowIs.of_block rt7 (b103.block _ (World.rowIs.lt rt7))
  replace rt8 := World.rowIs.of_block rt8 (b103.block _ (World.rowIs.lt rt8))
  replace rt9 := World.rowIs.of_block rt9 (b103.block _ (World.rowIs.lt rt9))
  replace rt10 := World.rowIs.of_block rt10 (b103.block _ (World.rowIs.lt rt10))
  replace rt11 := World.rowIs.of_block rt11 (b103.block _ (World.rowIs.lt rt11))
  replace rt13 := World.rowIs.of_block rt13 (b103.block _ (World.rowIs.lt rt13))
  refine ⟨_, rfl, b103, ?_⟩
  simp only [Act.put, List.setIfInBounds_toArray, List.set_cons_zero, List.set_cons_succ, Nat.zero_add]
  refine lint_pure 108 (Op.binOp BinOp.eql 4 (Operand.tmp 103) (Operand.tmp 107) 4) 4 (.bool true) rfl rfl rfl rfl rfl (fun w0 hb0 => by exact exec_bool_eql _ _ _ _ rfl rfl) ?_
  simp only [Act.put, List.setIfInBounds_toArray, List.set_cons_zero, List.set_cons_succ, Nat.zero_add]
  refine lint_pure 109 (Op.pick (Operand.tmp 101) (Operand.tmp 108) (Operand.const (Value.bool false))) 4 _ rfl rfl rfl rfl rfl (fun w0 hb0 => by unfold mkOp; go_simp; all_goals (with_reducible rfl)) ?_
  simp only [Act.put, List.setIfInBounds_toArray, List.set_cons_zero, List.set_cons_succ, Nat.zero_add]
  refine lint_pure 110 (Op.move (Operand.tmp 109)) 4 _ rfl rfl rfl rfl rfl (fun w0 hb0 => by unfold mkOp; go_simp; all_goals (with_reducible rfl)) ?_
  simp only [Act.put, List.setIfInBounds_toArray, List.set_cons_zero, List.set_cons_succ, Nat.zero_add]
  refine lint_pure 111 (Op.load 28 (Operand.tmp 7)) 28 (.agg (arrOf 4 fun i => ewF A (0 + i))) rfl rfl rfl rfl rfl (fun w0 hb0 => by exact exec_load_arr _ _ _ _ rfl arrE (World.rowIs.of_block rt7 (hb0.block _ (World.rowIs.lt rt7))) (by omega)) ?_
  simp only [Act.put, List.setIfInBounds_toArray, List.set_cons_zero, List.set_cons_succ, Nat.zero_add]
  refine lint_pure 112 (Op.load 28 (Operand.tmp 8)) 28 (.agg (arrOf 4 fun i => ewF C (0 + i))) rfl rfl rfl rfl rfl (fun w0 hb0 => by exact exec_load_arr _ _ _ _ rfl arrE (World.rowIs.of_block rt8 (hb0.block _ (World.rowIs.lt rt8))) (by omega)) ?_
  simp only [Act.put, List.setIfInBounds_toArray, List.set_cons_zero, List.set_cons_succ, Nat.zero_add]
  refine lint_pure 114 (Op.load 31 (Operand.tmp 9)) 31 (.agg (arrOf 16 fun i => feF A (0 + i))) rfl rfl rfl rfl rfl (fun w0 hb0 => by exact exec_load_arr _ _ _ _ rfl arrFe (World.rowIs.of_block rt9 (hb0.block _ (World.rowIs.lt rt9))) (by omega)) ?_
  simp only [Act.put, List.setIfInBounds_toArray, List.set_cons_zero, List.set_cons_succ, Nat.zero_add]
  refine stp_fn 113 30 #[Operand.const (Value.bool true), Operand.tmp 111, Operand.tmp 112] #[4, 28, 28] _ (pick5_yes A C _) rfl rfl rfl rfl Try.func30 (by kernel_rfl) (by kernel_rfl) (by go_simp) ?_
  rintro e w113 ⟨rfl, b113⟩
  replace B := B.trans (Below.mono b113 (HGS.out _ B))
  replace rt7 := World.rowIs.of_block rt7 (b113.block _ (World.rowIs.lt rt7))
  replace rt8 := World.rowIs.of_block rt8 (b113.block _ (World.rowIs.lt rt8))
  replace rt9 := World.rowIs.of_block rt9 (b113.block _ (World.rowIs.lt rt9))
  replace rt10 := World.rowIs.of_block rt10 (b113.block _ (World.rowIs.lt rt10))
  replace rt11 := World.rowIs.of_block rt11 (b113.block _ (World.rowIs.lt rt11))
  replace rt13 := World.rowIs.of_block rt13 (b113.block _ (World.rowIs.lt rt13))
  refine ⟨_, rfl, b113, ?_⟩
  simp only [Act.put, List.setIfInBounds_toArray, List.set_cons_zero, List.set_cons_succ, Nat.zero_add]
  refine stp_fn 115 17 #[Operand.tmp 113, Operand.tmp 114] #[28, 31] _ (is5_any A _) rfl rfl rfl rfl Try.func17 (by kernel_rfl) (by kernel_rfl) (by go_simp) ?_
  rintro e w115 ⟨rfl, b115⟩
  replace B := B.trans (Below.mono b115 (HGS.out _ B))
  replace rt7 := World.rowIs.of_block rt7 (b115.block _ (World.rowIs.lt rt7))
  replace rt8 := World.rowIs.of_block rt8 (b115.block _ (World.rowIs.lt rt8))
  replace rt9 := World.rowIs.of_block rt9 (b115.block _ (World.rowIs.lt rt9))
  replace rt10 := World.rowIs.of_block rt10 (b115.block _ (World.rowIs.lt rt10))
  replace rt11 := World.rowIs.of_block rt11 (b115.block _ (World.rowIs.lt rt11))
  replace rt13 := World.rowIs.of_block rt13 (b115.block _ (World.rowIs.lt rt13))
  refine ⟨_, rfl, b115, ?_⟩
  simp only [Act.put, List.setIfInBounds_toArray, List.set_cons_zero, List.set_cons_succ, Nat.zero_add]
  refine lint_pure 116 (Op.pick (Operand.tmp 110) (Operand.tmp 115) (Operand.const (Value.bool false))) 4 _ rfl rfl rfl rfl rfl (fun w0 hb0 => by unfold mkOp; go_simp; all_goals (with_reducible rfl)) ?_
  simp only [Act.put, List.setIfInBounds_toArray, List.set_cons_zero, List.set_cons_succ, Nat.zero_add]
  refine lint_pure 117 (Op.move (Operand.tmp 116)) 4 _ rfl rfl rfl rfl rfl (fun w0 hb0 => by unfold mkOp; go_simp; all_goals (with_reducible rfl)) ?_
  simp only [Act.put, List.setIfInBounds_toArray, List.set_cons_zero, List.set_cons_succ, Nat.zero_add]
  refine lint_pure 118 (Op.load 28 (Operand.tmp 7)) 28 (.agg (arrOf 4 fun i => ewF A (0 + i))) rfl rfl rfl rfl rfl (fun w0 hb0 => by exact exec_load_arr _ _ _ _ rfl arrE (World.rowIs.of_block rt7 (hb0.block _ (World.rowIs.lt rt7))) (by omega)) ?_
  simp only [Act.put, List.setIfInBounds_toArray, List.set_cons_zero, List.set_cons_succ, Nat.zero_add]
  refine lint_pure 119 (Op.load 28 (Operand.tmp 8)) 28 (.agg (arrOf 4 fun i => ewF C (0 + i))) rfl rfl rfl rfl rfl (fun w0 hb0 => by exact exec_load_arr _ _ _ _ rfl arrE (World.rowIs.of_block rt8 (hb0.block _ (World.rowIs.lt rt8))) (by omega)) ?_
  simp only [Act.put, List.setIfInBounds_toArray, List.set_cons_zero, List.set_cons_succ, Nat.zero_add]
  refine lint_pure 121 (Op.load 31 (Operand.tmp 10)) 31 (.agg (arrOf 16 fun i => feF C (0 + i))) rfl rfl rfl rfl rfl (fun w0 hb0 => by exact exec_load_arr _ _ _ _ rfl arrFe (World.rowIs.of_block rt10 (hb0.block _ (World.rowIs.lt rt10))) (by omega)) ?_
  simp only [Act.put, List.setIfInBounds_toArray, List.set_cons_zero, List.set_cons_succ, Nat.zero_add]
  refine stp_fn 120 30 #[Operand.const (Value.bool false), Operand.tmp 118, Operand.tmp 119] #[4, 28, 28] _ (pick5_no A C _) rfl rfl rfl rfl Try.func30 (by kernel_rfl) (by kernel_rfl) (by go_simp) ?_
  rintro e w120 ⟨rfl, b120⟩
  replace B := B.trans (Below.mono b120 (HGS.out _ B))
  replace rt7 := World.rowIs.of_block rt7 (b120.block _ (World.rowIs.lt rt7))
  replace rt8 := World.rowIs.of_block rt8 (b120.block _ (World.rowIs.lt rt8))
  replace rt9 := World.rowIs.of_block rt9 (b120.block _ (World.rowIs.lt rt9))
  replace rt10 := World.rowIs.of_block rt10 (b120.block _ (World.rowIs.lt rt10))
  replace rt11 := World.rowIs.of_block rt11 (b120.block _ (World.rowIs.lt rt11))
  replace rt13 := World.rowIs.of_block rt13 (b120.block _ (World.rowIs.lt rt13))
  refine ⟨_, rfl, b120, ?_⟩
  simp only [Act.put, List.setIfInBounds_toArray, List.set_cons_zero, List.set_cons_succ, Nat.zero_add]
  refine stp_fn 122 17 #[Operand.tmp 120, Operand.tmp 121] #[28, 31] _ (is5_any C _) rfl rfl rfl rfl Try.func17 (by kernel_rfl) (by kernel_rfl) (by go_simp) ?_
  rintro e w122 ⟨rfl, b122⟩
  replace B := B.trans (Below.mono b122 (HGS.out _ B))
  replace rt7 := World.rowIs.of_block rt7 (b122.block _ (World.rowIs.lt rt7))
  replace rt8 := World.rowIs.of_block rt8 (b122.block _ (World.rowIs.lt rt8))
  replace rt9 := World.rowIs.of_block rt9 (b122.block _ (World.rowIs.lt rt9))
  replace rt10 := World.rowIs.of_block rt10 (b122.block _ (World.rowIs.lt rt10))
  replace rt11 := World.rowIs.of_block rt11 (b122.block _ (World.rowIs.lt rt11))
  replace rt13 := World.rowIs.of_block rt13 (b122.block _ (World.rowIs.lt rt13))
  refine ⟨_, rfl, b122, ?_⟩
  simp only [Act.put, List.setIfInBounds_toArray, List.set_cons_zero, List.set_cons_succ, Nat.zero_add]
  refine lint_pure 123 (Op.pick (Operand.tmp 117) (Operand.tmp 122) (Operand.const (Value.bool false))) 4 _ rfl rfl rfl rfl rfl (fun w0 hb0 => by unfold mkOp; go_simp; all_goals (with_reducible rfl)) ?_
  simp only [Act.put, List.setIfInBounds_toArray, List.set_cons_zero, List.set_cons_succ, Nat.zero_add]
  refine lint_pure 124 (Op.move (Operand.tmp 123)) 4 _ rfl rfl rfl rfl rfl (fun w0 hb0 => by unfold mkOp; go_simp; all_goals (with_reducible rfl)) ?_
  simp only [Act.put, List.setIfInBounds_toArray, List.set_cons_zero, List.set_cons_succ, Nat.zero_add]
  refine stp_fn 125 12 #[] #[] _ (awake5_any _) rfl rfl rfl rfl Try.func12 (by kernel_rfl) (by kernel_rfl) (by go_simp) ?_
  rintro e w125 ⟨rfl, b125⟩
  replace B := B.trans (Below.mono b125 (HGS.out _ B))
  replace rt7 := World.rowIs.of_block rt7 (b125.block _ (World.rowIs.lt rt7))
  replace rt8 := World.rowIs.of_block rt8 (b125.block _ (World.rowIs.lt rt8))
  replace rt9 := World.rowIs.of_block rt9 (b125.block _ (World.rowIs.lt rt9))
  replace rt10 := World.rowIs.of_block rt10 (b125.block _ (World.rowIs.lt rt10))
  replace rt11 := World.rowIs.of_block rt11 (b125.block _ (World.rowIs.lt rt11))
  replace rt13 := World.rowIs.of_block rt13 (b125.block _ (World.rowIs.lt rt13))
  refine ⟨_, rfl, b125, ?_⟩
  simp only [Act.put, List.setIfInBounds_toArray, List.set_cons_zero, List.set_cons_succ, Nat.zero_add]
  refine lint_pure 126 (Op.pick (Operand.tmp 124) (Operand.tmp 125) (Operand.const (Value.bool false))) 4 _ rfl rfl rfl rfl rfl (fun w0 hb0 => by unfold mkOp; go_simp; all_goals (with_reducible rfl)) ?_
  simp only [Act.put, List.setIfInBounds_toArray, List.set_cons_zero, List.set_cons_succ, Nat.zero_add]
  refine lint_pure 6 (Op.assign (Operand.tmp 126)) 4 _ rfl rfl rfl rfl rfl (fun w0 hb0 => by unfold mkOp; go_simp; all_goals (with_reducible rfl)) ?_
  simp only [Act.put, List.setIfInBounds_toArray, List.set_cons_zero, List.set_cons_succ, Nat.zero_add]
  refine lint_end ?_
  go_wp2
  go_ret
  exact ⟨rfl, B⟩
end Go.Proofs.Ythapdohblphlgaa
