/- What the laws of chapter 7 share: is, awake. -/
import Derived.Test.YtncdlaidmiokiaaSwE
import Derived.Test.YtncdlaidmiokiaaPoS
namespace Go.Proofs.Ytncdlaidmiokiaa
open Go.RowKit Go.Deep
set_option linter.unusedSimpArgs false
set_option linter.unusedVariables false

theorem one_L : 1 < ordL := by decide +kernel
theorem exec_one (ρ : Operand → Value) (x : Operand) (t : TypeId) (w : World) (b : UInt8) (hx : ρ x = .int .u8 (b.toNat : Int)) :
    (execOp ρ (mkOp (.buildSlice 22 1 #[(0, x)]) t)).run Try.prog w = .ok (.value (.slice (some ⟨w.heap.size, 0, none⟩) 1 1)) (w.alloc (.cells #[.int .u8 (b.toNat : Int)] 5)) := by
  simp only [execOp, mkOp, List.map_toArray, List.map_cons, List.map_nil, hx]
  go_simp
theorem wpList_one {ops : Array Oper} {rest : List Oper} {o : Oper} {a : Act} {w : World} {Q : Exit → Act → World → Prop} (hgd : o.guard = none) (x : Operand) (ho : o.op = .buildSlice 22 1 #[(0, x)]) (b : UInt8) (hx : a.eval x = .int .u8 (b.toNat : Int))
    (h : ∀ v w', Bs w' v [b] → Below w.heap.size w w' → wpList Try.prog ops Q rest (a.put o.dst v) w') : wpList Try.prog ops Q (o :: rest) a w := by
  have hr := exec_one a.eval x o.type w b hx
  exact wpList_plain hgd fun _ hK => by
    unfold Oper.wp
    rw [exec_mkOp, ho, hr]
    exact hK _ _ (h _ _ (Bs.one w b) ((Below.refl _ _).alloc (Nat.le_refl _) _))
theorem wpList_load_asg {P : Program} {ops : Array Oper} {rest : List Oper} {o : Oper} {a : Act} {w : World} {Q : Exit → Act → World → Prop} (hw : Region.wanted o (yielded ops a.tmps) = true) (ty : TypeId) (x : Operand) (ho : o.op = .load ty x) (k : Nat) (F : Nat → Value) (ht : IsArr P ty k) {b m off : Nat} {t : TypeId} {f : Nat → Value}
    (hr : w.rowIs b t m f) (hx : a.eval x = .pointer (some ⟨b, off, none⟩)) (hk : off + k ≤ m) (hF : ∀ i, i < k → f (off + i) = F i) (h : wpList P ops Q rest (a.put o.dst (.agg (arrOf k F))) w) : wpList P ops Q (o :: rest) a w :=
  wpList_value_given hw (.agg (arrOf k F)) (by rw [exec_mkOp, ho]; exact exec_load_as a.eval ty x o.type F hx ht hr hk hF) h
theorem stp_one {ops : Array Oper} {Q : Exit → Act → World → Prop} {i : Nat} {r : Stp} {a : Act} {w : World} {o : Oper} (d : Nat) (x : Operand) (t : TypeId) (ho : ops[i]? = some o) (hd : o.dst = some d) (hop : o.op = .buildSlice 22 1 #[(0, x)]) (ht : o.type = t)
    (hw : Region.wanted o (yielded ops a.tmps) = true) (b : UInt8) (hx : a.eval x = .int .u8 (b.toNat : Int)) (h : ∀ w' v, Bs w' v [b] → Below w.heap.size w w' → LinT Try.prog ops Q r (a.put (some d) v) w') :
    wpOp Try.prog ops Q i (fun a' w' => Below w.heap.size w w' ∧ LinT Try.prog ops Q r a' w') a w := by
  have hb : Below w.heap.size w (w.alloc (.cells #[.int .u8 (b.toNat : Int)] 5)) := (Below.refl _ _).alloc (Nat.le_refl _) _
  exact stp_made d _ t _ _ ho hd hop ht hw (exec_one a.eval x t w b hx) hb (h _ _ (Bs.one w b) hb)
theorem Owns.one (w : World) (b : UInt8) : Owns (w.alloc (.cells #[.int .u8 (b.toNat : Int)] 5)) w.heap.size (.slice (some ⟨w.heap.size, 0, none⟩) 1 1) [b] :=
  Owns.of_row (f := fun _ => .int .u8 (b.toNat : Int)) (rowIs_arr w 1 (fun _ => .int .u8 (b.toNat : Int)) 5) (Nat.le_refl _) (by decide) rfl (fun i hi => by
    have h : i = 0 := by simp at hi; omega
    subst h
    rfl)
theorem same_yes (A : Nat) (w : World) (hA : A < ordL) : Calls Try.prog 20 #[.agg (arrOf 4 (ewF A)), .agg (arrOf 4 (ewF A))] w fun e w' => e = .returned (.bool true) ∧ Below w.heap.size w w' := by
  have h := sSame_any A A w hA hA
  rwa [decide_eq_true rfl] at h
theorem same_to (A C : Nat) (w : World) (hA : A < ordL) (hC : C < ordL) {b : Bool} (h : decide (A = C) = b) : Calls Try.prog 20 #[.agg (arrOf 4 (ewF A)), .agg (arrOf 4 (ewF C))] w fun e w' => e = .returned (.bool b) ∧ Below w.heap.size w w' := by
  rw [← h]
  exact sSame_any A C w hA hC
theorem sWide_to (v : Value) (l : List UInt8) (w : World) (hv : Bs w v l) (V : Nat) (h : numL l 64 % ordL = V) : Calls Try.prog 9 #[v] w fun e w' => e = .returned (.agg (arrOf 4 (ewF V))) ∧ Below w.heap.size w w' := by
  rw [← h]
  exact sWide_any v l w hv
theorem refWide_to (v : Value) (l : List UInt8) (w : World) (hv : Bs w v l) (V : Nat) (h : numL l 64 % ordL = V) : Calls Try.prog 10 #[v] w fun e w' => e = .returned (.agg (arrOf 32 (bF 32 V))) ∧ Below w.heap.size w w' := by
  rw [← h]
  exact refWide_any v l w hv
theorem refScNeg7_any (A : Nat) (w : World) (hA : A < ordL) : Calls Try.prog 19 #[.agg (arrOf 32 (bF 32 A))] w fun e w' => e = .returned (.agg (arrOf 32 (bF 32 (oppL A)))) ∧ Below w.heap.size w w' := by
  rw [← oppL_eq A hA]
  exact refScNeg_any A w hA
theorem sBit_to (V : Nat) (k : Int) (w : World) (hk0 : -9223372036854775808 ≤ k) (hk1 : k ≤ 9223372036854775807) (d : Int) (h : ((bitZ V k : Nat) : Int) = d) : Calls Try.prog 21 #[.agg (arrOf 4 (ewF V)), .int .i64 k] w fun e w' => e = .returned (.int .i64 d) ∧ Below w.heap.size w w' := by
  rw [← h]
  exact sBit_any V k w hk0 hk1
theorem refScBit_to (V : Nat) (k : Int) (w : World) (hk0 : -9223372036854775808 ≤ k) (hk1 : k ≤ 9223372036854775807) (d : Int) (h : ((bitZ V k : Nat) : Int) = d) : Calls Try.prog 22 #[.agg (arrOf 32 (bF 32 V)), .int .i64 k] w fun e w' => e = .returned (.int .i64 d) ∧ Below w.heap.size w w' := by
  rw [← h]
  exact refScBit_any V k w hk0 hk1
theorem opp_add (A : Nat) (h : A < ordL) : (A + oppL A) % ordL = 0 := by
  unfold oppL
  rw [Nat.add_mod_mod, show A + (ordL - A) = ordL by omega, Nat.mod_self]
theorem strict_short : strictSN [1] = none := by decide +kernel
theorem one_wide : numL [1] 64 % ordL = 1 := by decide +kernel
theorem nil_wide : numL [] 64 % ordL = 0 := by decide +kernel
theorem bit_one0 : ((bitZ 1 0 : Nat) : Int) = 1 := by decide +kernel
theorem bit_one1 : ((bitZ 1 1 : Nat) : Int) = 0 := by decide +kernel
theorem one_zero : decide (1 = 0) = false := by decide
theorem back_zero : decide ((1 + oppL 1) % ordL = 0) = true := decide_eq_true (opp_add 1 one_L)

set_option maxHeartbeats 4000000 in
set_option maxRecDepth 10000 in
theorem is7_any (A : Nat) (w : World) : Calls Try.prog 13 #[.agg (arrOf 4 (ewF A)), .agg (arrOf 32 (bF 32 A))] w fun e w' => e = .returned (.bool true) ∧ Below w.heap.size w w' := by
  have Bw0 := Below.refl w.heap.size w
  have HGS : Hid (∀ wq : World, Below w.heap.size w wq → w.heap.size ≤ wq.heap.size) := Lib.hid fun wq h => h.size
  go_enter Try.func13, Try.ntmps13
  go_wp2_with (first
    | (have hgo := Bw0; clear hgo
       refine wpList_box_row rfl 27 (.tmp 0) rfl 4 (ewF A) rfl ?_
       intro b_t2 w1 lk r_t2 kk
       have l_t2 := Nat.le_trans (HGS.out _ Bw0) lk
       have Bw1 := Bw0.trans (kk.mono (HGS.out _ Bw0))
       clear Bw0 kk lk)
    | (have hgo := Bw1; clear hgo
       refine wpList_box_row rfl 30 (.tmp 1) rfl 32 (bF 32 A) rfl ?_
       intro b_t3 w2 lk r_t3 kk
       have n_t2_t3 : b_t2 ≠ b_t3 := Nat.ne_of_lt (Nat.lt_of_lt_of_le (World.rowIs.lt r_t2) lk)
       have l_t3 := Nat.le_trans (HGS.out _ Bw1) lk
       replace r_t2 := World.rowIs.of_block r_t2 (kk.block _ (World.rowIs.lt r_t2))
       have Bw2 := Bw1.trans (kk.mono (HGS.out _ Bw1))
       clear Bw1 kk lk))
  have Bw3 := Bw2.drew
  replace r_t2 := World.rowIs.drew r_t2
  replace r_t3 := World.rowIs.drew r_t3
  clear Bw2
  refine wp_region_po (Keep []) (Keep.refl _) (fun _ _ _ h1 h2 => h1.trans h2) (.rd 0 (.rd 3 .done)) #[true, false, false, true, false, false, false, false] [1, 2, 4, 5, 6, 7] [some 6, some 7, some 9, some 10, some 11, some 4] [[], [0], [0], [2], [1, 3], [0, 1, 2, 3, 4]] [(0, []), (1, [0]), (2, [1]), (3, []), (4, [3, 1]), (5, [4]), (6, [2, 5]), (7, [6, 4, 0, 1, 2, 3, 4, 5, 6])] 9 (by as_aux_lemma => kernel_rfl) (by as_aux_lemma => kernel_rfl) (by decide) (by as_aux_lemma => kernel_rfl) (by as_aux_lemma => kernel_rfl) (by as_aux_lemma => kernel_rfl) rfl (fun d _ _ _ _ h => by cases d <;> exact h) ?_
  refine lintz_pure 5 (Op.load 27 (Operand.tmp 2)) 27 (.agg (arrOf 4 (ewF A))) rfl rfl rfl rfl rfl (fun w0 hb => by exact exec_load_as _ _ _ _ (ewF A) rfl arrS (Keep.row hb r_t2 rfl) (by omega) (fun i hi => by rw [Nat.zero_add])) ?_
  simp only [Act.put, List.setIfInBounds_toArray, List.set_cons_zero, List.set_cons_succ]
  refine lintz_pure 8 (Op.load 30 (Operand.tmp 3)) 30 (.agg (arrOf 32 (bF 32 A))) rfl rfl rfl rfl rfl (fun w0 hb => by exact exec_load_as _ _ _ _ (bF 32 A) rfl arrSc (Keep.row hb r_t3 rfl) (by omega) (fun i hi => by rw [Nat.zero_add])) ?_
  simp only [Act.put, List.setIfInBounds_toArray, List.set_cons_zero, List.set_cons_succ]
  refine lintz_leaf ?_
  have HWF : poWf [.own (litB A 32) 6, .val (.string ⟨(litB A 32).toArray⟩), .own (litB A 32) 6, .val (.string ⟨(litB A 32).toArray⟩), .val (.bool true), .val (.bool true)] [] = true := by as_aux_lemma => kernel_rfl
  refine ⟨JG [.own (litB A 32) 6, .val (.string ⟨(litB A 32).toArray⟩), .own (litB A 32) 6, .val (.string ⟨(litB A 32).toArray⟩), .val (.bool true), .val (.bool true)] [] _, JG.start (Nat.le_refl _) (fun i hi => absurd hi (Nat.not_lt_zero _)), fun m gz wa p az hp hm hmp hcl hdn hE hJ hS hO => ?_, fun gz wa hE hJ => ?_⟩
  · rcases (show p = 0 ∨ p = 1 ∨ p = 2 ∨ p = 3 ∨ p = 4 ∨ p = 5 by have h9 : p < 6 := hp; omega) with rfl | rfl | rfl | rfl | rfl | rfl
    · have e5 : az.eval (.tmp 5) = .agg (arrOf 4 (ewF A)) := hO 5 rfl
      exact po_owns 6 23 #[Operand.tmp 5] #[27] _ HWF hJ rfl hE (sBytes_any A _) rfl rfl rfl rfl rfl Try.func23 (by kernel_rfl) (by kernel_rfl) (by simp only [List.map_toArray, List.map_cons, List.map_nil, eval_const, eval_func, e5] <;> rfl)
    · have e6 := hS 0 6 rfl (hdn 0 (by decide)) (Nat.le_of_ble_eq_true rfl)
      exact po_run 7 (Op.convert 22 9 (Operand.tmp 6)) 9 HWF hJ rfl hE rfl rfl rfl rfl rfl rfl (exec_str _ _ _ e6 (hJ.own (hdn 0 (by decide)) rfl (po_never hm (Nat.le_refl _))).bs)
    · have e8 : az.eval (.tmp 8) = .agg (arrOf 32 (bF 32 A)) := hO 8 rfl
      exact po_owns 9 32 #[Operand.tmp 8] #[30] _ HWF hJ rfl hE (refScBytes_any A _) rfl rfl rfl rfl rfl Try.func32 (by kernel_rfl) (by kernel_rfl) (by simp only [List.map_toArray, List.map_cons, List.map_nil, eval_const, eval_func, e8] <;> rfl)
    · have e9 := hS 2 9 rfl (hdn 2 (by decide)) (Nat.le_of_ble_eq_true rfl)
      exact po_run 10 (Op.convert 22 9 (Operand.tmp 9)) 9 HWF hJ rfl hE rfl rfl rfl rfl rfl rfl (exec_str _ _ _ e9 (hJ.own (hdn 2 (by decide)) rfl (po_never hm (Nat.le_refl _))).bs)
    · have e7 := (hS 1 7 rfl (hdn 1 (by decide)) (Nat.le_of_ble_eq_true rfl)).trans (hJ.says (hdn 1 (by decide)) rfl)
      have e10 := (hS 3 10 rfl (hdn 3 (by decide)) (Nat.le_of_ble_eq_true rfl)).trans (hJ.says (hdn 3 (by decide)) rfl)
      exact po_run 11 (Op.binOp BinOp.eql 9 (Operand.tmp 7) (Operand.tmp 10) 9) _ HWF hJ rfl hE rfl rfl rfl rfl rfl rfl (exec_str_yes _ _ _ _ (rfl) e7 e10)
    · have e11 := (hS 4 11 rfl (hdn 4 (by decide)) (Nat.le_of_ble_eq_true rfl)).trans (hJ.says (hdn 4 (by decide)) rfl)
      exact po_run 4 (Op.assign (Operand.tmp 11)) _ HWF hJ rfl hE rfl rfl rfl rfl rfl rfl (by first | (simp only [execOp, mkOp, eval_const, e11]; done) | (simp only [execOp, mkOp, eval_const, e11]; go_simp))
  · have q1 := hJ.told 1 (by decide) rfl
    have q3 := hJ.told 3 (by decide) rfl
    have q4 := hJ.told 4 (by decide) rfl
    have q5 := hJ.told 5 (by decide) rfl
    show PoEnd _ (Act.put (Act.put (Act.put (Act.put (Act.put (Act.put _ (some 6) (gz 0)) (some 7) (gz 1)) (some 9) (gz 2)) (some 10) (gz 3)) (some 11) (gz 4)) (some 4) (gz 5)) wa
    rw [q1, q3, q4, q5]
    simp only [Act.put, List.setIfInBounds_toArray, List.set_cons_zero, List.set_cons_succ]
    refine po_end ?_
    replace r_t2 := Keep.row hE r_t2 rfl
    replace r_t3 := Keep.row hE r_t3 rfl
    have Bw4 := hE.below Bw3 (HGS.out _ Bw3) rfl
    clear Bw3 hE hJ HWF q1 q3 q4 q5
    go_wp2
    go_ret
    exact ⟨rfl, Bw4⟩
set_option maxHeartbeats 4000000 in
set_option maxRecDepth 10000 in
theorem awake7_any (w : World) : Calls Try.prog 8 #[] w fun e w' => e = .returned (.bool true) ∧ Below w.heap.size w w' := by
  have Bw0 := Below.refl w.heap.size w
  have HGS : Hid (∀ wq : World, Below w.heap.size w wq → w.heap.size ≤ wq.heap.size) := Lib.hid fun wq h => h.size
  have HS := Lib.hid fun v w h => sStrict_any v [1] w h
  rw [strict_short, show strictNE none = 2 from rfl, show (none : Option Nat).getD 0 = 0 from rfl] at HS
  go_enter Try.func8, Try.ntmps8
  go_wp2_with (first
    | (have hgo := Bw0; clear hgo
       refine wpList_one rfl (.const (.int .u8 1)) rfl 1 rfl ?_
       intro v_s5 w2 f_s5 kk
       have Bw1 := Bw0.trans (kk.mono (HGS.out _ Bw0))
       clear Bw0 kk)
    | (have hgo := Bw1; clear hgo
       go_at_call 11
       refine (HS.out _ _ f_s5).mono ?_
       rintro e w3 ⟨rfl, kk⟩
       replace f_s5 := Bs.below f_s5 kk (Nat.le_refl _)
       have Bw2 := Bw1.trans (kk.mono (HGS.out _ Bw1))
       clear Bw1 kk)
    | (have hgo := Bw2; clear hgo
       refine wpList_alloc_row rfl 27 rfl 4 (u64f fun _ => 0) zeroS ?_
       intro b_t1 w7 lk r_t1 kk
       have l_t1 := Nat.le_trans (HGS.out _ Bw2) lk
       have a_s5_t1 := Bs.away f_s5 lk
       replace f_s5 := Bs.below f_s5 kk (Nat.le_refl _)
       have Bw3 := Bw2.trans (kk.mono (HGS.out _ Bw2))
       clear Bw2 kk lk)
    | (have hgo := Bw3; clear hgo
       refine wpList_store_as rfl 27 (.tmp 1) (.tmp 7) rfl 4 (ewF 0) arrS r_t1 rfl rfl (by omega) (fun _ _ => rfl) (fun i hi => putN_whole hi) ?_
       intro w8 q gk
       replace r_t1 := q
       have Bw4 := Bw3.grown gk (HGS.out _ Bw3) (by intro k hk; cases hk; exact l_t1)
       replace f_s5 := gb_bs f_s5 gk a_s5_t1
       clear Bw3 gk q)
    | (have hgo := Bw4; clear hgo
       refine wpList_one rfl (.const (.int .u8 1)) rfl 1 rfl ?_
       intro v_s9 w10 f_s9 kk
       replace r_t1 := World.rowIs.of_block r_t1 (kk.block _ (World.rowIs.lt r_t1))
       replace f_s5 := Bs.below f_s5 kk (Nat.le_refl _)
       have Bw5 := Bw4.trans (kk.mono (HGS.out _ Bw4))
       clear Bw4 kk)
    | (have hgo := Bw5; clear hgo
       go_at_call 9
       refine (sWide_to _ ([1]) _ f_s9 (1) one_wide).mono ?_
       rintro e w11 ⟨rfl, kk⟩
       replace r_t1 := World.rowIs.of_block r_t1 (kk.block _ (World.rowIs.lt r_t1))
       replace f_s5 := Bs.below f_s5 kk (Nat.le_refl _)
       replace f_s9 := Bs.below f_s9 kk (Nat.le_refl _)
       have Bw6 := Bw5.trans (kk.mono (HGS.out _ Bw5))
       clear Bw5 kk)
    | (have hgo := Bw6; clear hgo
       refine wpList_alloc_row rfl 27 rfl 4 (u64f fun _ => 0) zeroS ?_
       intro b_t3 w12 lk r_t3 kk
       have n_t1_t3 : b_t1 ≠ b_t3 := Nat.ne_of_lt (Nat.lt_of_lt_of_le (World.rowIs.lt r_t1) lk)
       have l_t3 := Nat.le_trans (HGS.out _ Bw6) lk
       have a_s5_t3 := Bs.away f_s5 lk
       have a_s9_t3 := Bs.away f_s9 lk
       replace r_t1 := World.rowIs.of_block r_t1 (kk.block _ (World.rowIs.lt r_t1))
       replace f_s5 := Bs.below f_s5 kk (Nat.le_refl _)
       replace f_s9 := Bs.below f_s9 kk (Nat.le_refl _)
       have Bw7 := Bw6.trans (kk.mono (HGS.out _ Bw6))
       clear Bw6 kk lk)
    | (have hgo := Bw7; clear hgo
       refine wpList_store_as rfl 27 (.tmp 3) (.tmp 10) rfl 4 (ewF 1) arrS r_t3 rfl rfl (by omega) (fun _ _ => rfl) (fun i hi => putN_whole hi) ?_
       intro w13 q gk
       replace r_t1 := gb_rowIs r_t1 gk n_t1_t3
       replace r_t3 := q
       have Bw8 := Bw7.grown gk (HGS.out _ Bw7) (by intro k hk; cases hk; exact l_t3)
       replace f_s5 := gb_bs f_s5 gk a_s5_t3
       replace f_s9 := gb_bs f_s9 gk a_s9_t3
       clear Bw7 gk q))
  have Bw9 := Bw8.drew
  replace r_t1 := World.rowIs.drew r_t1
  replace r_t3 := World.rowIs.drew r_t3
  replace f_s5 := Bs.drew f_s5
  replace f_s9 := Bs.drew f_s9
  clear Bw8
  refine wp_region_po (Keep []) (Keep.refl _) (fun _ _ _ h1 h2 => h1.trans h2) (.rd 0 (.rd 1 (.rd 2 .done))) #[true, true, true, false, false, false, false, false, false, false, false, false, false, false, false, false, false, false, false, false, false, false, false, false, false, false, false] [3, 4, 5, 6, 7, 8, 9, 10, 11, 12, 13, 14, 15, 16, 17, 18, 19, 20, 21, 22, 23, 24, 25, 26] [some 14, some 15, some 16, some 17, some 18, some 19, some 20, some 21, some 22, some 23, some 24, some 25, some 26, some 27, some 28, some 29, some 30, some 31, some 32, some 33, some 34, some 35, some 36, some 0] [[], [0], [1], [2], [1, 3], [4], [4, 5], [4, 6], [4, 7], [6, 8], [9], [9], [9, 11], [9, 10, 12], [9, 13], [9, 13, 14], [9, 15], [15, 16], [17], [17], [17, 18, 19], [17, 20], [17, 21], [0, 1, 2, 3, 4, 5, 6, 7, 8, 9, 10, 11, 12, 13, 14, 15, 16, 17, 18, 19, 20, 21, 22]] [(0, []), (1, [0]), (2, [1]), (3, [2]), (4, [3, 2, 2]), (5, [4, 2]), (6, [2, 5]), (7, [6, 4]), (8, [7]), (9, [8, 7, 7]), (10, [9, 7]), (11, [7, 10]), (12, [11, 9]), (13, [12]), (14, [12]), (15, [14, 12, 12]), (16, [13, 15, 15, 12]), (17, [16, 12]), (18, [16, 17, 17, 12]), (19, [12, 18]), (20, [19, 18]), (21, [20]), (22, [20, 20]), (23, [21, 22, 22, 20]), (24, [23, 20]), (25, [20, 24]), (26, [25, 23, 0, 1, 2, 3, 4, 5, 6, 7, 8, 9, 10, 11, 12, 13, 14, 15, 16, 17, 18, 19, 20, 21, 22, 23, 24, 25])] 7 (by as_aux_lemma => kernel_rfl) (by as_aux_lemma => kernel_rfl) (by decide) (by as_aux_lemma => kernel_rfl) (by as_aux_lemma => kernel_rfl) (by as_aux_lemma => kernel_rfl) rfl (fun d _ _ _ _ h => by cases d <;> exact h) ?_
  refine lintz_pure 11 (Op.move (Operand.tmp 2)) 32 ((.int .i64 2)) rfl rfl rfl rfl rfl (fun w0 hb => by unfold mkOp; go_simp; all_goals (with_reducible rfl)) ?_
  simp only [Act.put, List.setIfInBounds_toArray, List.set_cons_zero, List.set_cons_succ]
  refine lintz_pure 12 (Op.binOp BinOp.eql 32 (Operand.tmp 11) (Operand.const (Value.int IntKind.i64 2)) 32) 4 (.bool true) rfl rfl rfl rfl rfl (fun w0 hb => by unfold mkOp; go_simp) ?_
  simp only [Act.put, List.setIfInBounds_toArray, List.set_cons_zero, List.set_cons_succ]
  refine lintz_pure 13 (Op.move (Operand.tmp 12)) 4 (.bool true) rfl rfl rfl rfl rfl (fun w0 hb => by unfold mkOp; go_simp; all_goals (with_reducible rfl)) ?_
  simp only [Act.put, List.setIfInBounds_toArray, List.set_cons_zero, List.set_cons_succ]
  refine lintz_leaf ?_
  have HWF : poWf [.val (.agg (arrOf 4 (ewF 1))), .val (.int .i64 1), .val (.bool true), .val (.bool true), .val (.bool true), .val (.agg (arrOf 4 (ewF 1))), .val (.int .i64 0), .val (.bool true), .val (.bool true), .val (.bool true), .val (.agg (arrOf 4 (ewF 1))), .val (.agg (arrOf 4 (ewF 1))), .val (.agg (arrOf 4 (ewF (oppL 1)))), .val (.agg (arrOf 4 (ewF ((1 + (oppL 1)) % ordL)))), .val (.agg (arrOf 4 (ewF 0))), .val (.bool true), .val (.bool true), .val (.bool true), .val (.agg (arrOf 4 (ewF 1))), .val (.agg (arrOf 4 (ewF 0))), .val (.bool false), .val (.bool true), .val (.bool true), .val (.bool true)] [] = true := by as_aux_lemma => kernel_rfl
  refine ⟨JG [.val (.agg (arrOf 4 (ewF 1))), .val (.int .i64 1), .val (.bool true), .val (.bool true), .val (.bool true), .val (.agg (arrOf 4 (ewF 1))), .val (.int .i64 0), .val (.bool true), .val (.bool true), .val (.bool true), .val (.agg (arrOf 4 (ewF 1))), .val (.agg (arrOf 4 (ewF 1))), .val (.agg (arrOf 4 (ewF (oppL 1)))), .val (.agg (arrOf 4 (ewF ((1 + (oppL 1)) % ordL)))), .val (.agg (arrOf 4 (ewF 0))), .val (.bool true), .val (.bool true), .val (.bool true), .val (.agg (arrOf 4 (ewF 1))), .val (.agg (arrOf 4 (ewF 0))), .val (.bool false), .val (.bool true), .val (.bool true), .val (.bool true)] [] _, JG.start (Nat.le_refl _) (fun i hi => absurd hi (Nat.not_lt_zero _)), fun m gz wa p az hp hm hmp hcl hdn hE hJ hS hO => ?_, fun gz wa hE hJ => ?_⟩
  · rcases (show p = 0 ∨ p = 1 ∨ p = 2 ∨ p = 3 ∨ p = 4 ∨ p = 5 ∨ p = 6 ∨ p = 7 ∨ p = 8 ∨ p = 9 ∨ p = 10 ∨ p = 11 ∨ p = 12 ∨ p = 13 ∨ p = 14 ∨ p = 15 ∨ p = 16 ∨ p = 17 ∨ p = 18 ∨ p = 19 ∨ p = 20 ∨ p = 21 ∨ p = 22 ∨ p = 23 by have h9 : p < 24 := hp; omega) with rfl | rfl | rfl | rfl | rfl | rfl | rfl | rfl | rfl | rfl | rfl | rfl | rfl | rfl | rfl | rfl | rfl | rfl | rfl | rfl | rfl | rfl | rfl | rfl
    · have e13 : az.eval (.tmp 13) = .bool true := hO 13 rfl
      have e3 : az.eval (.tmp 3) = .pointer (some ⟨b_t3, 0, none⟩) := hO 3 rfl
      exact po_run 14 (Op.load 27 (Operand.tmp 3)) _ HWF hJ rfl hE rfl rfl rfl rfl rfl (wanted_of rfl rfl e13) (exec_load_as _ _ _ _ (ewF 1) e3 arrS (Keep.row hE r_t3 rfl) (by omega) (fun i hi => by rw [Nat.zero_add]))
    · have e13 : az.eval (.tmp 13) = .bool true := hO 13 rfl
      have e14 := (hS 0 14 rfl (hdn 0 (by decide)) (Nat.le_of_ble_eq_true rfl)).trans (hJ.says (hdn 0 (by decide)) rfl)
      exact po_call 15 21 #[Operand.tmp 14, Operand.const (Value.int IntKind.i64 0)] #[27, 3] _ HWF hJ rfl hE (sBit_to 1 (0) _ (by decide) (by decide) 1 bit_one0) rfl rfl rfl rfl (wanted_of rfl rfl e13) Try.func21 (by kernel_rfl) (by kernel_rfl) (by simp only [List.map_toArray, List.map_cons, List.map_nil, eval_const, eval_func, e14] <;> rfl)
    · have e13 : az.eval (.tmp 13) = .bool true := hO 13 rfl
      have e15 := (hS 1 15 rfl (hdn 1 (by decide)) (Nat.le_of_ble_eq_true rfl)).trans (hJ.says (hdn 1 (by decide)) rfl)
      exact po_run 16 (Op.binOp BinOp.eql 3 (Operand.tmp 15) (Operand.const (Value.int IntKind.i64 1)) 3) _ HWF hJ rfl hE rfl rfl rfl rfl rfl (wanted_of rfl rfl e13) (by simp only [execOp, mkOp, eval_const, e15]; go_simp)
    · have e13 : az.eval (.tmp 13) = .bool true := hO 13 rfl
      have e16 := (hS 2 16 rfl (hdn 2 (by decide)) (Nat.le_of_ble_eq_true rfl)).trans (hJ.says (hdn 2 (by decide)) rfl)
      exact po_run 17 (Op.pick (Operand.tmp 13) (Operand.tmp 16) (Operand.const (Value.bool false))) _ HWF hJ rfl hE rfl rfl rfl rfl rfl rfl (by first | (simp only [execOp, mkOp, eval_const, e13, e16]; done) | (simp only [execOp, mkOp, eval_const, e13, e16]; go_simp))
    · have e17 := (hS 3 17 rfl (hdn 3 (by decide)) (Nat.le_of_ble_eq_true rfl)).trans (hJ.says (hdn 3 (by decide)) rfl)
      exact po_run 18 (Op.move (Operand.tmp 17)) _ HWF hJ rfl hE rfl rfl rfl rfl rfl rfl (by first | (simp only [execOp, mkOp, eval_const, e17]; done) | (simp only [execOp, mkOp, eval_const, e17]; go_simp))
    · have e18 := (hS 4 18 rfl (hdn 4 (by decide)) (Nat.le_of_ble_eq_true rfl)).trans (hJ.says (hdn 4 (by decide)) rfl)
      have e3 : az.eval (.tmp 3) = .pointer (some ⟨b_t3, 0, none⟩) := hO 3 rfl
      exact po_run 19 (Op.load 27 (Operand.tmp 3)) _ HWF hJ rfl hE rfl rfl rfl rfl rfl (wanted_of rfl rfl e18) (exec_load_as _ _ _ _ (ewF 1) e3 arrS (Keep.row hE r_t3 rfl) (by omega) (fun i hi => by rw [Nat.zero_add]))
    · have e18 := (hS 4 18 rfl (hdn 4 (by decide)) (Nat.le_of_ble_eq_true rfl)).trans (hJ.says (hdn 4 (by decide)) rfl)
      have e19 := (hS 5 19 rfl (hdn 5 (by decide)) (Nat.le_of_ble_eq_true rfl)).trans (hJ.says (hdn 5 (by decide)) rfl)
      exact po_call 20 21 #[Operand.tmp 19, Operand.const (Value.int IntKind.i64 1)] #[27, 3] _ HWF hJ rfl hE (sBit_to 1 (1) _ (by decide) (by decide) 0 bit_one1) rfl rfl rfl rfl (wanted_of rfl rfl e18) Try.func21 (by kernel_rfl) (by kernel_rfl) (by simp only [List.map_toArray, List.map_cons, List.map_nil, eval_const, eval_func, e19] <;> rfl)
    · have e18 := (hS 4 18 rfl (hdn 4 (by decide)) (Nat.le_of_ble_eq_true rfl)).trans (hJ.says (hdn 4 (by decide)) rfl)
      have e20 := (hS 6 20 rfl (hdn 6 (by decide)) (Nat.le_of_ble_eq_true rfl)).trans (hJ.says (hdn 6 (by decide)) rfl)
      exact po_run 21 (Op.binOp BinOp.eql 3 (Operand.tmp 20) (Operand.const (Value.int IntKind.i64 0)) 3) _ HWF hJ rfl hE rfl rfl rfl rfl rfl (wanted_of rfl rfl e18) (by simp only [execOp, mkOp, eval_const, e20]; go_simp)
    · have e18 := (hS 4 18 rfl (hdn 4 (by decide)) (Nat.le_of_ble_eq_true rfl)).trans (hJ.says (hdn 4 (by decide)) rfl)
      have e21 := (hS 7 21 rfl (hdn 7 (by decide)) (Nat.le_of_ble_eq_true rfl)).trans (hJ.says (hdn 7 (by decide)) rfl)
      exact po_run 22 (Op.pick (Operand.tmp 18) (Operand.tmp 21) (Operand.const (Value.bool false))) _ HWF hJ rfl hE rfl rfl rfl rfl rfl rfl (by first | (simp only [execOp, mkOp, eval_const, e18, e21]; done) | (simp only [execOp, mkOp, eval_const, e18, e21]; go_simp))
    · have e22 := (hS 8 22 rfl (hdn 8 (by decide)) (Nat.le_of_ble_eq_true rfl)).trans (hJ.says (hdn 8 (by decide)) rfl)
      exact po_run 23 (Op.move (Operand.tmp 22)) _ HWF hJ rfl hE rfl rfl rfl rfl rfl rfl (by first | (simp only [execOp, mkOp, eval_const, e22]; done) | (simp only [execOp, mkOp, eval_const, e22]; go_simp))
    · have e23 := (hS 9 23 rfl (hdn 9 (by decide)) (Nat.le_of_ble_eq_true rfl)).trans (hJ.says (hdn 9 (by decide)) rfl)
      have e3 : az.eval (.tmp 3) = .pointer (some ⟨b_t3, 0, none⟩) := hO 3 rfl
      exact po_run 24 (Op.load 27 (Operand.tmp 3)) _ HWF hJ rfl hE rfl rfl rfl rfl rfl (wanted_of rfl rfl e23) (exec_load_as _ _ _ _ (ewF 1) e3 arrS (Keep.row hE r_t3 rfl) (by omega) (fun i hi => by rw [Nat.zero_add]))
    · have e23 := (hS 9 23 rfl (hdn 9 (by decide)) (Nat.le_of_ble_eq_true rfl)).trans (hJ.says (hdn 9 (by decide)) rfl)
      have e3 : az.eval (.tmp 3) = .pointer (some ⟨b_t3, 0, none⟩) := hO 3 rfl
      exact po_run 25 (Op.load 27 (Operand.tmp 3)) _ HWF hJ rfl hE rfl rfl rfl rfl rfl (wanted_of rfl rfl e23) (exec_load_as _ _ _ _ (ewF 1) e3 arrS (Keep.row hE r_t3 rfl) (by omega) (fun i hi => by rw [Nat.zero_add]))
    · have e23 := (hS 9 23 rfl (hdn 9 (by decide)) (Nat.le_of_ble_eq_true rfl)).trans (hJ.says (hdn 9 (by decide)) rfl)
      have e25 := (hS 11 25 rfl (hdn 11 (by decide)) (Nat.le_of_ble_eq_true rfl)).trans (hJ.says (hdn 11 (by decide)) rfl)
      exact po_call 26 18 #[Operand.tmp 25] #[27] _ HWF hJ rfl hE (sNeg_any 1 _ one_L) rfl rfl rfl rfl (wanted_of rfl rfl e23) Try.func18 (by kernel_rfl) (by kernel_rfl) (by simp only [List.map_toArray, List.map_cons, List.map_nil, eval_const, eval_func, e25] <;> rfl)
    · have e23 := (hS 9 23 rfl (hdn 9 (by decide)) (Nat.le_of_ble_eq_true rfl)).trans (hJ.says (hdn 9 (by decide)) rfl)
      have e24 := (hS 10 24 rfl (hdn 10 (by decide)) (Nat.le_of_ble_eq_true rfl)).trans (hJ.says (hdn 10 (by decide)) rfl)
      have e26 := (hS 12 26 rfl (hdn 12 (by decide)) (Nat.le_of_ble_eq_true rfl)).trans (hJ.says (hdn 12 (by decide)) rfl)
      exact po_call 27 14 #[Operand.tmp 24, Operand.tmp 26] #[27, 27] _ HWF hJ rfl hE (sAdd_any 1 (oppL 1) _ one_L (oppL_lt _)) rfl rfl rfl rfl (wanted_of rfl rfl e23) Try.func14 (by kernel_rfl) (by kernel_rfl) (by simp only [List.map_toArray, List.map_cons, List.map_nil, eval_const, eval_func, e24, e26] <;> rfl)
    · have e23 := (hS 9 23 rfl (hdn 9 (by decide)) (Nat.le_of_ble_eq_true rfl)).trans (hJ.says (hdn 9 (by decide)) rfl)
      exact po_call 28 9 #[Operand.const (Value.slice none 0 0)] #[22] _ HWF hJ rfl hE (sWide_to _ ([]) _ (Bs.nil _) (0) nil_wide) rfl rfl rfl rfl (wanted_of rfl rfl e23) Try.func9 (by kernel_rfl) (by kernel_rfl) (by simp only [List.map_toArray, List.map_cons, List.map_nil, eval_const, eval_func] <;> rfl)
    · have e23 := (hS 9 23 rfl (hdn 9 (by decide)) (Nat.le_of_ble_eq_true rfl)).trans (hJ.says (hdn 9 (by decide)) rfl)
      have e27 := (hS 13 27 rfl (hdn 13 (by decide)) (Nat.le_of_ble_eq_true rfl)).trans (hJ.says (hdn 13 (by decide)) rfl)
      have e28 := (hS 14 28 rfl (hdn 14 (by decide)) (Nat.le_of_ble_eq_true rfl)).trans (hJ.says (hdn 14 (by decide)) rfl)
      exact po_call 29 20 #[Operand.tmp 27, Operand.tmp 28] #[27, 27] _ HWF hJ rfl hE (same_to ((1 + (oppL 1)) % ordL) 0 _ (Nat.mod_lt _ ordL_pos) ordL_pos back_zero) rfl rfl rfl rfl (wanted_of rfl rfl e23) Try.func20 (by kernel_rfl) (by kernel_rfl) (by simp only [List.map_toArray, List.map_cons, List.map_nil, eval_const, eval_func, e27, e28] <;> rfl)
    · have e23 := (hS 9 23 rfl (hdn 9 (by decide)) (Nat.le_of_ble_eq_true rfl)).trans (hJ.says (hdn 9 (by decide)) rfl)
      have e29 := (hS 15 29 rfl (hdn 15 (by decide)) (Nat.le_of_ble_eq_true rfl)).trans (hJ.says (hdn 15 (by decide)) rfl)
      exact po_run 30 (Op.pick (Operand.tmp 23) (Operand.tmp 29) (Operand.const (Value.bool false))) _ HWF hJ rfl hE rfl rfl rfl rfl rfl rfl (by first | (simp only [execOp, mkOp, eval_const, e23, e29]; done) | (simp only [execOp, mkOp, eval_const, e23, e29]; go_simp))
    · have e30 := (hS 16 30 rfl (hdn 16 (by decide)) (Nat.le_of_ble_eq_true rfl)).trans (hJ.says (hdn 16 (by decide)) rfl)
      exact po_run 31 (Op.move (Operand.tmp 30)) _ HWF hJ rfl hE rfl rfl rfl rfl rfl rfl (by first | (simp only [execOp, mkOp, eval_const, e30]; done) | (simp only [execOp, mkOp, eval_const, e30]; go_simp))
    · have e31 := (hS 17 31 rfl (hdn 17 (by decide)) (Nat.le_of_ble_eq_true rfl)).trans (hJ.says (hdn 17 (by decide)) rfl)
      have e3 : az.eval (.tmp 3) = .pointer (some ⟨b_t3, 0, none⟩) := hO 3 rfl
      exact po_run 32 (Op.load 27 (Operand.tmp 3)) _ HWF hJ rfl hE rfl rfl rfl rfl rfl (wanted_of rfl rfl e31) (exec_load_as _ _ _ _ (ewF 1) e3 arrS (Keep.row hE r_t3 rfl) (by omega) (fun i hi => by rw [Nat.zero_add]))
    · have e31 := (hS 17 31 rfl (hdn 17 (by decide)) (Nat.le_of_ble_eq_true rfl)).trans (hJ.says (hdn 17 (by decide)) rfl)
      exact po_call 33 9 #[Operand.const (Value.slice none 0 0)] #[22] _ HWF hJ rfl hE (sWide_to _ ([]) _ (Bs.nil _) (0) nil_wide) rfl rfl rfl rfl (wanted_of rfl rfl e31) Try.func9 (by kernel_rfl) (by kernel_rfl) (by simp only [List.map_toArray, List.map_cons, List.map_nil, eval_const, eval_func] <;> rfl)
    · have e31 := (hS 17 31 rfl (hdn 17 (by decide)) (Nat.le_of_ble_eq_true rfl)).trans (hJ.says (hdn 17 (by decide)) rfl)
      have e32 := (hS 18 32 rfl (hdn 18 (by decide)) (Nat.le_of_ble_eq_true rfl)).trans (hJ.says (hdn 18 (by decide)) rfl)
      have e33 := (hS 19 33 rfl (hdn 19 (by decide)) (Nat.le_of_ble_eq_true rfl)).trans (hJ.says (hdn 19 (by decide)) rfl)
      exact po_call 34 20 #[Operand.tmp 32, Operand.tmp 33] #[27, 27] _ HWF hJ rfl hE (same_to 1 0 _ one_L ordL_pos one_zero) rfl rfl rfl rfl (wanted_of rfl rfl e31) Try.func20 (by kernel_rfl) (by kernel_rfl) (by simp only [List.map_toArray, List.map_cons, List.map_nil, eval_const, eval_func, e32, e33] <;> rfl)
    · have e31 := (hS 17 31 rfl (hdn 17 (by decide)) (Nat.le_of_ble_eq_true rfl)).trans (hJ.says (hdn 17 (by decide)) rfl)
      have e34 := (hS 20 34 rfl (hdn 20 (by decide)) (Nat.le_of_ble_eq_true rfl)).trans (hJ.says (hdn 20 (by decide)) rfl)
      exact po_run 35 (Op.unOp UnOp.not 4 (Operand.tmp 34)) _ HWF hJ rfl hE rfl rfl rfl rfl rfl (wanted_of rfl rfl e31) (by first | (simp only [execOp, mkOp, eval_const, e34]; done) | (simp only [execOp, mkOp, eval_const, e34]; go_simp))
    · have e31 := (hS 17 31 rfl (hdn 17 (by decide)) (Nat.le_of_ble_eq_true rfl)).trans (hJ.says (hdn 17 (by decide)) rfl)
      have e35 := (hS 21 35 rfl (hdn 21 (by decide)) (Nat.le_of_ble_eq_true rfl)).trans (hJ.says (hdn 21 (by decide)) rfl)
      exact po_run 36 (Op.pick (Operand.tmp 31) (Operand.tmp 35) (Operand.const (Value.bool false))) _ HWF hJ rfl hE rfl rfl rfl rfl rfl rfl (by first | (simp only [execOp, mkOp, eval_const, e31, e35]; done) | (simp only [execOp, mkOp, eval_const, e31, e35]; go_simp))
    · have e36 := (hS 22 36 rfl (hdn 22 (by decide)) (Nat.le_of_ble_eq_true rfl)).trans (hJ.says (hdn 22 (by decide)) rfl)
      exact po_run 0 (Op.assign (Operand.tmp 36)) _ HWF hJ rfl hE rfl rfl rfl rfl rfl rfl (by first | (simp only [execOp, mkOp, eval_const, e36]; done) | (simp only [execOp, mkOp, eval_const, e36]; go_simp))
  · have q0 := hJ.told 0 (by decide) rfl
    have q1 := hJ.told 1 (by decide) rfl
    have q2 := hJ.told 2 (by decide) rfl
    have q3 := hJ.told 3 (by decide) rfl
    have q4 := hJ.told 4 (by decide) rfl
    have q5 := hJ.told 5 (by decide) rfl
    have q6 := hJ.told 6 (by decide) rfl
    have q7 := hJ.told 7 (by decide) rfl
    have q8 := hJ.told 8 (by decide) rfl
    have q9 := hJ.told 9 (by decide) rfl
    have q10 := hJ.told 10 (by decide) rfl
    have q11 := hJ.told 11 (by decide) rfl
    have q12 := hJ.told 12 (by decide) rfl
    have q13 := hJ.told 13 (by decide) rfl
    have q14 := hJ.told 14 (by decide) rfl
    have q15 := hJ.told 15 (by decide) rfl
    have q16 := hJ.told 16 (by decide) rfl
    have q17 := hJ.told 17 (by decide) rfl
    have q18 := hJ.told 18 (by decide) rfl
    have q19 := hJ.told 19 (by decide) rfl
    have q20 := hJ.told 20 (by decide) rfl
    have q21 := hJ.told 21 (by decide) rfl
    have q22 := hJ.told 22 (by decide) rfl
    have q23 := hJ.told 23 (by decide) rfl
    show PoEnd _ (Act.put (Act.put (Act.put (Act.put (Act.put (Act.put (Act.put (Act.put (Act.put (Act.put (Act.put (Act.put (Act.put (Act.put (Act.put (Act.put (Act.put (Act.put (Act.put (Act.put (Act.put (Act.put (Act.put (Act.put _ (some 14) (gz 0)) (some 15) (gz 1)) (some 16) (gz 2)) (some 17) (gz 3)) (some 18) (gz 4)) (some 19) (gz 5)) (some 20) (gz 6)) (some 21) (gz 7)) (some 22) (gz 8)) (some 23) (gz 9)) (some 24) (gz 10)) (some 25) (gz 11)) (some 26) (gz 12)) (some 27) (gz 13)) (some 28) (gz 14)) (some 29) (gz 15)) (some 30) (gz 16)) (some 31) (gz 17)) (some 32) (gz 18)) (some 33) (gz 19)) (some 34) (gz 20)) (some 35) (gz 21)) (some 36) (gz 22)) (some 0) (gz 23)) wa
    rw [q0, q1, q2, q3, q4, q5, q6, q7, q8, q9, q10, q11, q12, q13, q14, q15, q16, q17, q18, q19, q20, q21, q22, q23]
    simp only [Act.put, List.setIfInBounds_toArray, List.set_cons_zero, List.set_cons_succ]
    refine po_end ?_
    replace r_t1 := Keep.row hE r_t1 rfl
    replace r_t3 := Keep.row hE r_t3 rfl
    replace f_s5 := Bs.below f_s5 (Keep.nil hE) (Nat.le_refl _)
    replace f_s9 := Bs.below f_s9 (Keep.nil hE) (Nat.le_refl _)
    have Bw10 := hE.below Bw9 (HGS.out _ Bw9) rfl
    clear Bw9 hE hJ HWF q0 q1 q2 q3 q4 q5 q6 q7 q8 q9 q10 q11 q12 q13 q14 q15 q16 q17 q18 q19 q20 q21 q22 q23
    go_wp2
    go_ret
    exact ⟨rfl, Bw10⟩
end Go.Proofs.Ytncdlaidmiokiaa
