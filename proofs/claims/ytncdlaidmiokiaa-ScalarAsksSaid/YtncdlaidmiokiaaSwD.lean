/- The program's numbers mod L: what is brought below L; products. -/
import Derived.Test.YtncdlaidmiokiaaSwC
namespace Go.Proofs.Ytncdlaidmiokiaa
open Go.RowKit Go.Deep
set_option linter.unusedSimpArgs false
set_option linter.unusedVariables false

section
variable {P : Program} {ops : Array Oper} {rest : List Oper} {o : Oper} {a : Act} {w : World} {Q : Exit → Act → World → Prop}
theorem wpList_load_at (hgd : o.guard = none) (ty : TypeId) (x : Operand) (ho : o.op = .load ty x) {b m i : Nat} {t : TypeId} {f : Nat → Value} (v : Value) (hr : w.rowIs b t m f) (hx : a.eval x = .pointer (some ⟨b, i, none⟩)) (hi : i < m) (hv : f i = v)
    (hu : (P.underlying ty).map (fun d => match d with | .struct _ | .array _ _ => true | _ => false) = some false) (h : wpList P ops Q rest (a.put o.dst v) w) : wpList P ops Q (o :: rest) a w := by
  have hc := hr.cell hi
  rw [hv] at hc
  refine wpList_value hgd _ ?_ h
  rw [exec_mkOp, ho]
  exact exec_load_cell a.eval ty x o.type hx hu hc
theorem wpList_store_at (hgd : o.guard = none) (ty : TypeId) (x y : Operand) (ho : o.op = .store ty x y) {b m i v : Nat} {t : TypeId} {f : Nat → Nat} (g : Nat → Nat) (hr : w.rowIs b t m (u64f f)) (hx : a.eval x = .pointer (some ⟨b, i, none⟩)) (hy : a.eval y = .int .u64 (v : Int)) (hi : i < m)
    (hs : (P.info? ty).map (fun i => i.size) = some 1) (hg : ∀ j, j < m → g j = if j = i then v else f j) (h : ∀ w', w'.rowIs b t m (u64f g) → w.grownBy w' (some b) → wpList P ops Q rest (a.put o.dst undef) w') : wpList P ops Q (o :: rest) a w := by
  have hx' := exec_store_cell (P := P) a.eval ty x y o.type hr hx hy hs rfl rfl hi
  exact wpList_plain hgd fun _ hK => by
    unfold Oper.wp
    rw [exec_mkOp, ho, hx']
    exact hK _ _ (h _ (row_set hr i v g hg) (grownBy_set _ _ _ _))
end
def s252 : Nat := 7237005577332262213973186563042994240829374041602535252466099000494570602496
def excL : Nat := 27742317777372353535851937790883648493
theorem s252_W : s252 = 18446744073709551616 ^ 3 * 1152921504606846976 := by decide +kernel
theorem s252_pos : 0 < s252 := by decide +kernel
theorem ordL_parts : ordL = s252 + excL := by decide +kernel
theorem excL_lt : excL < s252 := by decide +kernel
theorem excL_W : excL < 18446744073709551616 ^ 2 := by decide +kernel
theorem arrW5 : IsArr Try.prog 69 5 := ⟨by kernel_rfl, by kernel_rfl⟩
theorem zeroW5 : (Try.prog.info? 69).map (fun i => i.zero) = some (some (.agg (arrOf 5 (u64f fun _ => 0)))) := by kernel_rfl
def f4 (x0 x1 x2 x3 : Nat) : Nat → Nat := fun i => if i = 0 then x0 else if i = 1 then x1 else if i = 2 then x2 else x3
theorem builtF4 (x0 x1 x2 x3 : Nat) : Try.prog.built 25 [(0, .int .u64 (x0 : Int)), (1, .int .u64 (x1 : Int)), (2, .int .u64 (x2 : Int)), (3, .int .u64 (x3 : Int))] = some (arrOf 4 (u64f (f4 x0 x1 x2 x3))) := by kernel_rfl
theorem builtF5 (x0 : Nat) : Try.prog.built 69 [(0, .int .u64 (x0 : Int))] = some (arrOf 5 (u64f fun i => if i = 0 then x0 else 0)) := by kernel_rfl
theorem builtZ5 : Try.prog.built 69 [] = some (arrOf 5 (ewF 0)) := by kernel_rfl
theorem wd_low252 (V j : Nat) (h : j < 4) : wd (V % s252) j = if j = 3 then wd V 3 % 1152921504606846976 else wd V j := by
  unfold wd
  by_cases e : j = 3
  · subst e
    rw [if_pos rfl, s252_W, Nat.mod_mul_right_div_self]
    omega
  · rw [if_neg e]
    have e2 : s252 = 18446744073709551616 ^ j * (18446744073709551616 * (18446744073709551616 ^ (2 - j) * 1152921504606846976)) := by
      rw [s252_W, show 3 = j + 1 + (2 - j) by omega, Nat.pow_add, Nat.pow_succ]
      ac_rfl
    rw [e2, Nat.mod_mul_right_div_self, Nat.mod_mul_right_mod]
theorem low_cells (V : Nat) : Try.prog.built 25 [(0, .int .u64 ((wd V 0 : Nat) : Int)), (1, .int .u64 ((wd V 1 : Nat) : Int)), (2, .int .u64 ((wd V 2 : Nat) : Int)), (3, .int .u64 ((wd V 3 % 1152921504606846976 : Nat) : Int))] = some (arrOf 4 (ewF (V % s252))) := by
  rw [builtF4]
  congr 1
  refine arrOf_congr fun i hi => ?_
  unfold ewF u64f
  rw [wd_low252 V i hi]
  unfold f4
  rcases (show i = 0 ∨ i = 1 ∨ i = 2 ∨ i = 3 by omega) with rfl | rfl | rfl | rfl <;> rfl
/-- What stands above 2^252, word by word. -/
theorem wd_high252 (V j : Nat) : wd (V / s252) j = wd V (3 + j) / 1152921504606846976 + wd V (4 + j) * 16 % 18446744073709551616 := by
  unfold wd
  have e1 : V / s252 / 18446744073709551616 ^ j = V / 18446744073709551616 ^ (3 + j) / 1152921504606846976 := by
    rw [s252_W, Nat.div_div_eq_div_mul, Nat.div_div_eq_div_mul, Nat.pow_add]
    congr 1
    ac_rfl
  have e2 : V / 18446744073709551616 ^ (4 + j) = V / 18446744073709551616 ^ (3 + j) / 18446744073709551616 := by
    rw [Nat.div_div_eq_div_mul, ← Nat.pow_succ, show 4 + j = (3 + j).succ by omega]
  rw [e1, e2]
  generalize V / 18446744073709551616 ^ (3 + j) = U
  omega
theorem high_last (V : Nat) (h : V < 18446744073709551616 ^ 8) : wd (V / s252) 4 = wd V 7 / 1152921504606846976 := by
  rw [wd_high252]
  have e : wd V (4 + 4) = 0 := by
    unfold wd
    rw [Nat.div_eq_of_lt h]
  rw [e]
  show wd V 7 / 1152921504606846976 + 0 * 16 % 18446744073709551616 = _
  omega
theorem high252_lt (V : Nat) (h : V < 18446744073709551616 ^ 8) : V / s252 < 18446744073709551616 ^ 5 := by
  rw [Nat.div_lt_iff_lt_mul s252_pos]
  refine Nat.lt_of_lt_of_le h ?_
  decide +kernel
/-- The high words behind so many rounds. -/
def hiF (V i : Nat) : Nat → Nat := fun j => if j < i then wd (V / s252) j else if j = i then wd V (3 + i) / 1152921504606846976 else 0
theorem hiF_zero (V j : Nat) : (if j = 0 then wd V 3 / 1152921504606846976 else 0) = hiF V 0 j := by
  unfold hiF
  rw [if_neg (Nat.not_lt_zero j)]
theorem hiF_end (V j : Nat) (h : V < 18446744073709551616 ^ 8) (hj : j < 5) : hiF V 4 j = wd (V / s252) j := by
  unfold hiF
  by_cases e : j < 4
  · rw [if_pos e]
  · rw [if_neg e, if_pos (by omega), show j = 4 by omega, high_last V h]
def hiG (V i : Nat) : Nat → Nat := fun j => if j = i then wd (V / s252) i else hiF V i j
theorem hiG_next (V i j : Nat) : hiF V (i + 1) j = if j = i + 1 then wd V (4 + i) / 1152921504606846976 else hiG V i j := by
  unfold hiG hiF
  by_cases h1 : j = i + 1
  · rw [if_neg (by omega), if_pos h1, if_pos h1, show 3 + (i + 1) = 4 + i by omega]
  · by_cases h2 : j = i
    · subst h2
      rw [if_pos (by omega), if_neg h1, if_pos rfl]
    · by_cases h3 : j < i
      · rw [if_pos (by omega), if_neg h1, if_neg h2, if_pos h3]
      · rw [if_neg (by omega), if_neg h1, if_neg h1, if_neg h2, if_neg h3, if_neg h2]
theorem builtHi (V h3 : Nat) (h : h3 = wd V 3 / 1152921504606846976) : Try.prog.built 69 [(0, .int .u64 (h3 : Int))] = some (arrOf 5 (u64f (hiF V 0))) := by
  rw [builtF5, h]
  congr 1
theorem less_by (V : Nat) (h : V / s252 ≠ 0) : V / s252 * excL < V := by
  have h1 : V / s252 * excL < V / s252 * s252 := Nat.mul_lt_mul_of_pos_left excL_lt (Nat.pos_of_ne_zero h)
  exact Nat.lt_of_lt_of_le h1 (Nat.div_mul_le_self V s252)
theorem reduced_eq (V : Nat) : (V % s252 + oppL (V / s252 * excL % ordL)) % ordL = V % ordL := by
  have h1 : s252 * (V / s252) + V % s252 = V := Nat.div_add_mod V s252
  have h2 : ordL * (V / s252 * excL / ordL) + V / s252 * excL % ordL = V / s252 * excL := Nat.div_add_mod _ _
  have h3 : V / s252 * excL % ordL < ordL := Nat.mod_lt _ ordL_pos
  unfold oppL
  rw [Nat.add_mod_mod]
  generalize V / s252 * excL % ordL = r at *
  have h4 : ordL * (V / s252) = s252 * (V / s252) + V / s252 * excL := by rw [ordL_parts, Nat.add_mul, Nat.mul_comm excL]
  have h5 : V % s252 + (ordL - r) + ordL * (V / s252) = V + ordL * (V / s252 * excL / ordL + 1) := by
    rw [Nat.mul_succ]
    generalize ordL * (V / s252 * excL / ordL) = t1 at *
    generalize V / s252 * excL = t2 at *
    generalize ordL * (V / s252) = t3 at *
    generalize s252 * (V / s252) = t4 at *
    omega
  have h6 := congrArg (· % ordL) h5
  rwa [Nat.add_mul_mod_self_left, Nat.add_mul_mod_self_left] at h6
theorem eq5 (w : World) (A : Nat) (hA : A < 18446744073709551616 ^ 5) : (binOp .eql 69 (.agg (arrOf 5 (ewF A))) (.agg (arrOf 5 (ewF 0)))).run Try.prog w = .ok (.bool (decide (A = 0))) w := by
  have h2 := run_eql_arr2 (P := Try.prog) w 69 24 5 .u64 (fun j => ((wd A j : Nat) : Int)) (fun j => ((wd 0 j : Nat) : Int)) (by kernel_rfl) (by kernel_rfl) (by kernel_rfl)
  refine h2.trans ?_
  have e : (∀ j, j < 5 → ((wd A j : Nat) : Int) = ((wd 0 j : Nat) : Int)) ↔ A = 0 := by
    constructor
    · intro h
      have h1 := valW_congr 5 (f := wd A) (g := wd 0) (fun j hj => by have := h j hj; omega)
      rwa [valW_all _ 5 hA, valW_all 0 5 (by decide)] at h1
    · intro h j _; rw [h]
  by_cases e0 : A = 0
  · rw [decide_eq_true e0, decide_eq_true (e.2 e0)]
  · rw [decide_eq_false e0, decide_eq_false (fun h => e0 (e.1 h))]
theorem exc_cells : (#[.int .u64 6346243789798364141, .int .u64 1503914060200516822] : Array Value) = arrOf 2 (ewF excL) := by kernel_rfl
theorem exec_exc (ρ : Operand → Value) (t : TypeId) (w : World) (h0 : ρ (.const (.int .u64 6346243789798364141)) = .int .u64 6346243789798364141) (h1 : ρ (.const (.int .u64 1503914060200516822)) = .int .u64 1503914060200516822) :
    (execOp ρ (mkOp (.buildSlice 63 2 #[(0, .const (.int .u64 6346243789798364141)), (1, .const (.int .u64 1503914060200516822))]) t)).run Try.prog w = .ok (.value (.slice (some ⟨w.heap.size, 0, none⟩) 2 2)) (w.alloc (.cells (arrOf 2 (ewF excL)) 24)) := by
  rw [← exc_cells]
  simp only [execOp, mkOp, List.map_toArray, List.map_cons, List.map_nil, h0, h1]
  go_simp

set_option maxHeartbeats 4000000 in
set_option maxRecDepth 10000 in
theorem reduced_upto (n : Nat) : ∀ V, V < n → V < 18446744073709551616 ^ 8 → ∀ w : World, Calls Try.prog 27 #[.agg (arrOf 8 (ewF V))] w fun e w' => e = .returned (.agg (arrOf 4 (ewF (V % ordL)))) ∧ Below w.heap.size w w' := by
  induction n with
  | zero => intro V h; exact absurd h (Nat.not_lt_zero V)
  | succ n ih =>
    intro V hVn hV w
    have Bw0 := Below.refl w.heap.size w
    have HGS : Hid (∀ wq : World, Below w.heap.size w wq → w.heap.size ≤ wq.heap.size) := Lib.hid fun wq h => h.size
    have HV := Lib.hid hV
    obtain ⟨m3, hm3⟩ := nat_var (wd V 3 % 1152921504606846976)
    obtain ⟨h3, hh3⟩ := nat_var (wd V 3 / 1152921504606846976)
    have hmask : bits .and .u64 ((wd V 3 : Nat) : Int) 1152921504606846975 = (m3 : Int) := by rw [hm3]; exact mask64 (wd V 3) 60 (wd_lt V 3) (by decide) 1152921504606846975 rfl
    have hshr : ((wd V 3 : Nat) : Int) / 1152921504606846976 = (h3 : Int) := by rw [hh3]; omega
    have hlow := low_cells V
    rw [← hm3] at hlow
    have HLOW := Lib.hid hlow
    have HHI := Lib.hid (builtHi V h3 hh3)
    have HRED : Hid (V / s252 ≠ 0 → ∀ w : World, Calls Try.prog 27 #[.agg (arrOf 8 (ewF (V / s252 * excL)))] w fun e w' => e = .returned (.agg (arrOf 4 (ewF (V / s252 * excL % ordL)))) ∧ Below w.heap.size w w') := Lib.hid fun h0 => ih _ (by have := less_by V h0; omega) (Nat.lt_trans (less_by V h0) hV)
    clear ih hV hVn hm3 hh3 hlow
    go_enter Try.func27, Try.ntmps27
    go_wp2_with (first
      | (have hgo := Bw0; clear hgo
         refine wpList_box_row rfl 55 (.tmp 0) rfl 8 (ewF V) rfl ?_
         intro b_t1 w1 lk r_t1 kk
         have l_t1 := Nat.le_trans (HGS.out _ Bw0) lk
         have Bw1 := Bw0.trans (kk.mono (HGS.out _ Bw0))
         clear Bw0 kk lk)
      | (have hgo := Bw1; clear hgo
         refine wpList_alloc_row rfl 27 rfl 4 (u64f fun _ => 0) zeroS ?_
         intro b_t2 w2 lk r_t2 kk
         have n_t1_t2 : b_t1 ≠ b_t2 := Nat.ne_of_lt (Nat.lt_of_lt_of_le (World.rowIs.lt r_t1) lk)
         have l_t2 := Nat.le_trans (HGS.out _ Bw1) lk
         replace r_t1 := World.rowIs.of_block r_t1 (kk.block _ (World.rowIs.lt r_t1))
         have Bw2 := Bw1.trans (kk.mono (HGS.out _ Bw1))
         clear Bw1 kk lk)
      | (have hgo := Bw2; clear hgo
         refine wpList_load_at rfl 24 (.tmp 7) rfl (.int .u64 ((wd V 0 : Nat) : Int)) (i := 0) r_t1 rfl (by omega) rfl (by kernel_rfl) ?_
         have Bw3 := Bw2
         clear Bw2)
      | (have hgo := Bw3; clear hgo
         refine wpList_load_at rfl 24 (.tmp 9) rfl (.int .u64 ((wd V 1 : Nat) : Int)) (i := 1) r_t1 rfl (by omega) rfl (by kernel_rfl) ?_
         have Bw4 := Bw3
         clear Bw3)
      | (have hgo := Bw4; clear hgo
         refine wpList_load_at rfl 24 (.tmp 11) rfl (.int .u64 ((wd V 2 : Nat) : Int)) (i := 2) r_t1 rfl (by omega) rfl (by kernel_rfl) ?_
         have Bw5 := Bw4
         clear Bw4)
      | (have hgo := Bw5; clear hgo
         refine wpList_load_at rfl 24 (.tmp 13) rfl (.int .u64 ((wd V 3 : Nat) : Int)) (i := 3) r_t1 rfl (by omega) rfl (by kernel_rfl) ?_
         have Bw6 := Bw5
         clear Bw5)
      | (have hgo := Bw6; clear hgo
         refine wpList_build_arr rfl 25 _ rfl (arrOf 4 (ewF (V % s252))) (by simp only [List.map_toArray, List.map_cons, List.map_nil]; exact HLOW.out) ?_
         have Bw7 := Bw6
         clear Bw6)
      | (have hgo := Bw7; clear hgo
         refine wpList_build_arr rfl 27 #[(0, Operand.tmp 16)] rfl (arrOf 4 (ewF (V % s252))) (by simp only [List.map_toArray, List.map_cons, List.map_nil]; exact builtS _) ?_
         have Bw8 := Bw7
         clear Bw7)
      | (have hgo := Bw8; clear hgo
         refine wpList_alloc_row rfl 27 rfl 4 (u64f fun _ => 0) zeroS ?_
         intro b_t3 w14 lk r_t3 kk
         have n_t1_t3 : b_t1 ≠ b_t3 := Nat.ne_of_lt (Nat.lt_of_lt_of_le (World.rowIs.lt r_t1) lk)
         have n_t2_t3 : b_t2 ≠ b_t3 := Nat.ne_of_lt (Nat.lt_of_lt_of_le (World.rowIs.lt r_t2) lk)
         have l_t3 := Nat.le_trans (HGS.out _ Bw8) lk
         replace r_t1 := World.rowIs.of_block r_t1 (kk.block _ (World.rowIs.lt r_t1))
         replace r_t2 := World.rowIs.of_block r_t2 (kk.block _ (World.rowIs.lt r_t2))
         have Bw9 := Bw8.trans (kk.mono (HGS.out _ Bw8))
         clear Bw8 kk lk)
      | (have hgo := Bw9; clear hgo
         refine wpList_store_as rfl 27 (.tmp 3) (.tmp 17) rfl 4 (ewF (V % s252)) arrS r_t3 rfl rfl (by omega) (fun _ _ => rfl) (fun i hi => putN_whole hi) ?_
         intro w15 q gk
         replace r_t1 := gb_rowIs r_t1 gk n_t1_t3
         replace r_t2 := gb_rowIs r_t2 gk n_t2_t3
         replace r_t3 := q
         have Bw10 := Bw9.grown gk (HGS.out _ Bw9) (by intro k hk; cases hk; exact l_t3)
         clear Bw9 gk q)
      | (have hgo := Bw10; clear hgo
         refine wpList_load_at rfl 24 (.tmp 18) rfl (.int .u64 ((wd V 3 : Nat) : Int)) (i := 3) r_t1 rfl (by omega) rfl (by kernel_rfl) ?_
         have Bw11 := Bw10
         clear Bw10)
      | (have hgo := Bw11; clear hgo
         refine wpList_build_arr rfl 69 _ rfl (arrOf 5 (u64f (hiF V 0))) (by simp only [List.map_toArray, List.map_cons, List.map_nil]; exact HHI.out) ?_
         have Bw12 := Bw11
         clear Bw11)
      | (have hgo := Bw12; clear hgo
         refine wpList_alloc_row rfl 69 rfl 5 (u64f fun _ => 0) zeroW5 ?_
         intro b_t4 w20 lk r_t4 kk
         have n_t1_t4 : b_t1 ≠ b_t4 := Nat.ne_of_lt (Nat.lt_of_lt_of_le (World.rowIs.lt r_t1) lk)
         have n_t2_t4 : b_t2 ≠ b_t4 := Nat.ne_of_lt (Nat.lt_of_lt_of_le (World.rowIs.lt r_t2) lk)
         have n_t3_t4 : b_t3 ≠ b_t4 := Nat.ne_of_lt (Nat.lt_of_lt_of_le (World.rowIs.lt r_t3) lk)
         have l_t4 := Nat.le_trans (HGS.out _ Bw12) lk
         replace r_t1 := World.rowIs.of_block r_t1 (kk.block _ (World.rowIs.lt r_t1))
         replace r_t2 := World.rowIs.of_block r_t2 (kk.block _ (World.rowIs.lt r_t2))
         replace r_t3 := World.rowIs.of_block r_t3 (kk.block _ (World.rowIs.lt r_t3))
         have Bw13 := Bw12.trans (kk.mono (HGS.out _ Bw12))
         clear Bw12 kk lk)
      | (have hgo := Bw13; clear hgo
         refine wpList_store_as rfl 69 (.tmp 4) (.tmp 21) rfl 5 (u64f (hiF V 0)) arrW5 r_t4 rfl rfl (by omega) (fun _ _ => rfl) (fun i hi => putN_whole hi) ?_
         intro w21 q gk
         replace r_t1 := gb_rowIs r_t1 gk n_t1_t4
         replace r_t2 := gb_rowIs r_t2 gk n_t2_t4
         replace r_t3 := gb_rowIs r_t3 gk n_t3_t4
         replace r_t4 := q
         have Bw14 := Bw13.grown gk (HGS.out _ Bw13) (by intro k hk; cases hk; exact l_t4)
         clear Bw13 gk q)
      | (have hgo := Bw14; clear hgo
         refine wpList_op rfl (.slice 55 (.tmp 1) (some (.const (.int .i64 4))) none none) 63 (.slice (some ⟨b_t1, 4, none⟩) 4 4) rfl rfl (exec_sliceFromArr _ _ 24 _ _ _ 4 4 4 (n := 8) (by kernel_rfl) (by kernel_rfl) rfl rfl (by omega) rfl rfl) ?_
         have Bw15 := Bw14
         clear Bw14))
    clear hmask hshr
    go_loopw [24] (fun ii wr => ∃ i : Nat, i ≤ 4 ∧ ii = .int .i64 (i : Int) ∧ wr.rowIs b_t1 55 8 (ewF V) ∧ wr.rowIs b_t4 69 5 (u64f (hiF V i)) ∧ wr.rowIs b_t3 27 4 (ewF (V % s252)) ∧ wr.rowIs b_t2 27 4 (u64f fun _ => 0) ∧ Below w.heap.size w wr) (fun ii _ => 4 - (intOf ii).toNat)
    case atStart => exact ⟨0, Nat.zero_le _, rfl, r_t1, r_t4, r_t3, r_t2, Bw15⟩
    case round =>
    clear r_t1 r_t2 r_t3 r_t4 Bw15
    obtain ⟨i, hi, rfl, r_t1, r_t4, r_t3, r_t2, B⟩ := hrel
    by_cases hlt : i < 4
    · have hiI : 0 ≤ (i : Int) ∧ (i : Int) < 4 := by omega
      have hi5 : (i : Int) < 5 := by omega
      have hi6 : 0 ≤ ((i + 1 : Nat) : Int) ∧ ((i + 1 : Nat) : Int) < 5 := by omega
      have hii : IntKind.i64.wrap ((i : Int) + 1) = ((i + 1 : Nat) : Int) := by rw [IntWalk.i64_in _ (by omega)]; omega
      obtain ⟨x, hx⟩ := nat_var (wd V (4 + i))
      have hxl : x < 18446744073709551616 := by rw [hx]; exact wd_lt _ _
      obtain ⟨c, hc⟩ := nat_var (wd V (3 + i) / 1152921504606846976)
      have hcl : c < 16 := by have := wd_lt V (3 + i); omega
      obtain ⟨q, hq⟩ := nat_var (x % 1152921504606846976)
      obtain ⟨xs, hxs⟩ := nat_var (2 ^ 4 * q)
      obtain ⟨u, hu⟩ := nat_var (wd (V / s252) i)
      obtain ⟨z, hz⟩ := nat_var (x / 1152921504606846976)
      have hor := or_add64' 4 q c (by omega) (by omega)
      have huv : 2 ^ 4 * q + c = u := by rw [hu, wd_high252, ← hx, ← hc, hq]; omega
      rw [huv, ← hxs] at hor
      have hshl : IntKind.u64.wrap ((x : Int) * 16) = (xs : Int) := by rw [IntKind.wrap_u64]; omega
      have hshl' : IntKind.u64.wrap ((x : Int) * 2 ^ 4) = (xs : Int) := by rw [IntKind.wrap_u64]; omega
      have hshr : (x : Int) / 1152921504606846976 = (z : Int) := by omega
      have HCF : Hid (hiF V i i = c) := Lib.hid (by unfold hiF; rw [if_neg (Nat.lt_irrefl i), if_pos rfl, hc])
      have HXF : Hid (wd V (4 + i) = x) := Lib.hid hx.symm
      have HG1 : Hid (∀ j, j < 5 → hiG V i j = if j = i then u else hiF V i j) := Lib.hid (fun j _ => by unfold hiG; rw [hu])
      have HG2 : Hid (∀ j, j < 5 → hiF V (i + 1) j = if j = i + 1 then z else hiG V i j) := Lib.hid (fun j _ => by rw [hz, hx]; exact hiG_next V i j)
      clear hx hxl hc hcl hq hxs hu hz huv
      have Bw0 := B
      clear B
      go_wp2_with (first
        | refine wpList_load_at rfl 24 (.tmp 27) rfl (.int .u64 (x : Int)) (i := 4 + i) r_t1 (by go_simp) (by omega) (by show Value.int .u64 ((wd V (4 + i) : Nat) : Int) = _; rw [HXF.out]) (by kernel_rfl) ?_
        | refine wpList_load_at rfl 24 (.tmp 30) rfl (.int .u64 (c : Int)) (i := i) r_t4 (by go_simp) (by omega) (by show Value.int .u64 ((hiF V i i : Nat) : Int) = _; rw [HCF.out]) (by kernel_rfl) ?_
        | (refine wpList_store_at rfl 24 (.tmp 35) (.tmp 34) rfl (v := u) (i := i) (hiG V i) r_t4 (by go_simp) (by go_simp) (by omega) (by kernel_rfl) HG1.out ?_
           intro w1 q4 gk
           replace r_t1 := gb_rowIs r_t1 gk n_t1_t4
           replace r_t3 := gb_rowIs r_t3 gk n_t3_t4
           replace r_t2 := gb_rowIs r_t2 gk n_t2_t4
           have Bw1 := Bw0.grown gk (HGS.out _ Bw0) (by intro k hk; cases hk; exact l_t4)
           clear r_t4 gk Bw0)
        | (refine wpList_store_at rfl 24 (.tmp 40) (.tmp 39) rfl (v := z) (i := i + 1) (hiF V (i + 1)) q4 (by go_simp) (by go_simp) (by omega) (by kernel_rfl) HG2.out ?_
           intro w2 r_t4 gk
           replace r_t1 := gb_rowIs r_t1 gk n_t1_t4
           replace r_t3 := gb_rowIs r_t3 gk n_t3_t4
           replace r_t2 := gb_rowIs r_t2 gk n_t2_t4
           have Bw2 := Bw1.grown gk (HGS.out _ Bw1) (by intro k hk; cases hk; exact l_t4)
           clear q4 gk Bw1))
      go_roundw
      case rel => exact ⟨i + 1, by omega, by go_num, r_t1, r_t4, r_t3, r_t2, Bw2⟩
      case measure => simp [intOf]; omega
    · obtain rfl : i = 4 := by omega
      replace r_t4 : wr.rowIs b_t4 69 5 (ewF (V / s252)) := r_t4.congr fun i hi => by unfold ewF u64f; rw [hiF_end V i HV.out hi]
      have HQ := Lib.hid fun w x y => run_eqGuard_agg (P := Try.prog) w .eql 69 x y (arrOf 5 (ewF (V / s252))) (arrOf 5 (ewF 0)) (by kernel_rfl)
      have hE := fun w => eq5 w (V / s252) (high252_lt V HV.out)
      have HRES := Lib.hid (reduced_eq V)
      have HHL := Lib.hid (high252_lt V HV.out)
      have Bw0 := B
      clear B HLOW HHI
      by_cases h0 : V / s252 = 0
      · rw [decide_eq_true h0] at hE
        have HE := Lib.hid hE
        have HR2 : Hid (V % ordL = V % s252) := Lib.hid (by
          have e := Nat.div_add_mod V s252
          rw [h0, Nat.mul_zero, Nat.zero_add] at e
          rw [e]
          exact Nat.mod_eq_of_lt (Nat.lt_trans (by have h9 := Nat.mod_lt V s252_pos; rw [e] at h9; exact h9) (by decide +kernel)))
        clear hE h0 HRED
        go_wp2_with (first
          | (have hgo := Bw0; clear hgo
             refine wpList_load_as rfl 69 (.tmp 4) rfl 5 (ewF (V / s252)) arrW5 r_t4 rfl (by omega) (fun i hi => by rw [Nat.zero_add]) ?_
             have Bw1 := Bw0
             clear Bw0)
          | (have hgo := Bw1; clear hgo
             refine wpList_build_arr rfl 69 _ rfl (arrOf 5 (ewF 0)) (by kernel_rfl) ?_
             have Bw2 := Bw1
             clear Bw1)
          | (have hgo := Bw2; clear hgo
             refine wpList_bin2 rfl .eql 69 69 (.tmp 42) (.tmp 43) rfl (fun w => HQ.out w _ _) (fun w => HE.out w) rfl rfl ?_
             have Bw3 := Bw2
             clear Bw2)
          | (have hgo := Bw3; clear hgo
             refine wpList_load_as rfl 27 (.tmp 3) rfl 4 (ewF (V % s252)) arrS r_t3 rfl (by omega) (fun i hi => by rw [Nat.zero_add]) ?_
             have Bw4 := Bw3
             clear Bw3)
          | (have hgo := Bw4; clear hgo
             refine wpList_store_as rfl 27 (.tmp 2) (.tmp 45) rfl 4 (ewF (V % s252)) arrS r_t2 rfl rfl (by omega) (fun _ _ => rfl) (fun i hi => putN_whole hi) ?_
             intro w505 q gk
             replace r_t1 := gb_rowIs r_t1 gk n_t1_t2
             replace r_t4 := gb_rowIs r_t4 gk (Ne.symm n_t2_t4)
             replace r_t3 := gb_rowIs r_t3 gk (Ne.symm n_t2_t3)
             replace r_t2 := q
             have Bw5 := Bw4.grown gk (HGS.out _ Bw4) (by intro k hk; cases hk; exact l_t2)
             clear Bw4 gk q))
        exact ret_cell_as _ rfl arrS r_t2 rfl (by omega) (fun _ _ => rfl) rfl ⟨by rw [HR2.out], Bw5⟩
      · rw [decide_eq_false h0] at hE
        have HE := Lib.hid hE
        replace HRED := Lib.hid (HRED.out h0)
        clear hE h0
        go_wp2_with (first
          | (have hgo := Bw0; clear hgo
             refine wpList_load_as rfl 69 (.tmp 4) rfl 5 (ewF (V / s252)) arrW5 r_t4 rfl (by omega) (fun i hi => by rw [Nat.zero_add]) ?_
             have Bw1 := Bw0
             clear Bw0)
          | (have hgo := Bw1; clear hgo
             refine wpList_build_arr rfl 69 _ rfl (arrOf 5 (ewF 0)) (by kernel_rfl) ?_
             have Bw2 := Bw1
             clear Bw1)
          | (have hgo := Bw2; clear hgo
             refine wpList_bin2 rfl .eql 69 69 (.tmp 42) (.tmp 43) rfl (fun w => HQ.out w _ _) (fun w => HE.out w) rfl rfl ?_
             have Bw3 := Bw2
             clear Bw2))
        obtain ⟨H, hH⟩ := nat_var (V / s252)
        have HLOW : Hid (V % s252 < ordL) := Lib.hid (Nat.lt_trans (Nat.mod_lt _ s252_pos) (by decide +kernel))
        rw [← hH] at HRED HRES HHL r_t4
        obtain ⟨Lo, hLo⟩ := nat_var (V % s252)
        rw [← hLo] at HRES HLOW r_t3
        have q3 := World.rowIs.drew r_t3
        have q4 := World.rowIs.drew r_t4
        have q2 := World.rowIs.drew r_t2
        have B := Bw3.drew
        clear r_t1 r_t2 r_t3 r_t4 Bw3 hH hLo HQ HE
        refine wp_region_lins [(0, some [6, 7]), (1, some [3, 7]), (2, none), (3, none), (4, none), (5, none), (6, none), (7, none)] (fun c w' => c = 6 → w'.rowIs b_t3 27 4 (ewF Lo)) (by kernel_rfl) (by kernel_rfl) (by decide) (by kernel_rfl) (fun d _ _ _ _ h => by cases d <;> exact h) (fun c hc _ => q3) ?_
        refine lins_read 46 (Op.load 27 (Operand.tmp 3)) 27 (.agg (arrOf 4 (ewF Lo))) rfl rfl rfl rfl rfl (fun w0 hw0 => by exact exec_load_as _ _ _ _ (ewF Lo) rfl arrS (hw0 6 (by simp) rfl) (by omega) (fun i hi => by rw [Nat.zero_add])) ?_
        simp only [Act.put, List.setIfInBounds_toArray, List.set_cons_zero, List.set_cons_succ, Nat.zero_add]
        refine lins_read 47 (Op.slice 69 (Operand.tmp 4) none none none) 63 (.slice (some ⟨b_t4, 0, none⟩) 5 5) rfl rfl rfl rfl rfl (fun w0 hw0 => by exact exec_sliceAll _ _ 24 _ _ (by kernel_rfl) (by kernel_rfl) rfl (by omega)) ?_
        simp only [Act.put, List.setIfInBounds_toArray, List.set_cons_zero, List.set_cons_succ, Nat.zero_add]
        refine lins_made (some 48) (Op.buildSlice 63 2 #[(0, (Operand.const (Value.int IntKind.u64 6346243789798364141))), (1, (Operand.const (Value.int IntKind.u64 1503914060200516822)))]) 63 _ _ rfl rfl rfl rfl rfl (exec_exc _ _ _ rfl rfl) (fun c w' => c = 6 → w'.rowIs b_t3 27 4 (ewF Lo)) (fun c hc => ⟨fun _ => World.rowIs.alloc q3 _, fun w6 h6 => h6⟩) ?_
        simp only [Act.put, List.setIfInBounds_toArray, List.set_cons_zero, List.set_cons_succ, Nat.zero_add]
        have q5 := rowIs_arr wr.drew 2 (ewF excL) 24
        have k2 := (Below.refl _ wr.drew).alloc (Nat.le_refl _) (.cells (arrOf 2 (ewF excL)) 24)
        replace q3 := World.rowIs.of_block q3 (k2.block _ (World.rowIs.lt q3))
        replace q4 := World.rowIs.of_block q4 (k2.block _ (World.rowIs.lt q4))
        replace q2 := World.rowIs.of_block q2 (k2.block _ (World.rowIs.lt q2))
        replace B := B.trans (k2.mono (HGS.out _ B))
        clear k2
        generalize wr.drew.alloc (.cells (arrOf 2 (ewF excL)) 24) = w48 at *
        generalize wr.drew.heap.size = g5 at *
        refine lins_fn (some 49) 35 #[Operand.tmp 47, Operand.tmp 48] #[63, 63] _ (times_any H excL 5 2 b_t4 g5 69 24 _ (by decide) HHL.out excL_W q4 q5) rfl rfl rfl rfl Try.func35 (by kernel_rfl) (by kernel_rfl) (by go_simp) ?_
        rintro e w49 ⟨rfl, hb⟩
        replace q3 := World.rowIs.of_block q3 (hb.block _ (World.rowIs.lt q3))
        replace q2 := World.rowIs.of_block q2 (hb.block _ (World.rowIs.lt q2))
        replace B := B.trans (hb.mono (HGS.out _ B))
        refine ⟨_, rfl, fun c w' => c = 6 → w'.rowIs b_t3 27 4 (ewF Lo), fun c hc => ⟨fun _ => q3, fun w6 h6 => h6⟩, ?_⟩
        simp only [Act.put, List.setIfInBounds_toArray, List.set_cons_zero, List.set_cons_succ, Nat.zero_add]
        refine lins_fn (some 50) 27 #[Operand.tmp 49] #[55] _ (HRED.out _) rfl rfl rfl rfl Try.func27 (by kernel_rfl) (by kernel_rfl) (by go_simp) ?_
        rintro e w50 ⟨rfl, hb⟩
        replace q3 := World.rowIs.of_block q3 (hb.block _ (World.rowIs.lt q3))
        replace q2 := World.rowIs.of_block q2 (hb.block _ (World.rowIs.lt q2))
        replace B := B.trans (hb.mono (HGS.out _ B))
        refine ⟨_, rfl, fun c w' => c = 6 → w'.rowIs b_t3 27 4 (ewF Lo), fun c hc => ⟨fun _ => q3, fun w6 h6 => h6⟩, ?_⟩
        simp only [Act.put, List.setIfInBounds_toArray, List.set_cons_zero, List.set_cons_succ, Nat.zero_add]
        refine lins_fn (some 51) 18 #[Operand.tmp 50] #[27] _ (sNeg_any (H * excL % ordL) _ (Nat.mod_lt _ ordL_pos)) rfl rfl rfl rfl Try.func18 (by kernel_rfl) (by kernel_rfl) (by go_simp) ?_
        rintro e w51 ⟨rfl, hb⟩
        replace q3 := World.rowIs.of_block q3 (hb.block _ (World.rowIs.lt q3))
        replace q2 := World.rowIs.of_block q2 (hb.block _ (World.rowIs.lt q2))
        replace B := B.trans (hb.mono (HGS.out _ B))
        refine ⟨_, rfl, fun c w' => c = 6 → w'.rowIs b_t3 27 4 (ewF Lo), fun c hc => ⟨fun _ => q3, fun w6 h6 => h6⟩, ?_⟩
        simp only [Act.put, List.setIfInBounds_toArray, List.set_cons_zero, List.set_cons_succ, Nat.zero_add]
        refine lins_fn (some 52) 14 #[Operand.tmp 46, Operand.tmp 51] #[27, 27] _ (sAdd_any Lo (oppL (H * excL % ordL)) _ HLOW.out (oppL_lt _)) rfl rfl rfl rfl Try.func14 (by kernel_rfl) (by kernel_rfl) (by go_simp) ?_
        rintro e w52 ⟨rfl, hb⟩
        replace q2 := World.rowIs.of_block q2 (hb.block _ (World.rowIs.lt q2))
        replace B := B.trans (hb.mono (HGS.out _ B))
        refine ⟨_, rfl, fun _ _ => True, fun c hc => ⟨trivial, fun w7 _ h => by subst h; simp [writers] at hc⟩, ?_⟩
        simp only [Act.put, List.setIfInBounds_toArray, List.set_cons_zero, List.set_cons_succ, Nat.zero_add]
        refine lins_store_arr (k := 4) (off := 0) 27 (.tmp 2) (.tmp 52) rfl rfl rfl rfl q2 rfl rfl arrS (by omega) (fun _ _ => rfl) ?_
        intro w7 hr7 hg7 hs7
        refine ⟨fun _ _ => True, fun c hc => (by cases hc), ?_⟩
        try simp only [Act.put, List.setIfInBounds_toArray, List.set_cons_zero, List.set_cons_succ, Nat.zero_add]
        refine lins_end ?_
        go_wp2
        refine ret_cell_as _ rfl arrS hr7 rfl (by omega) (fun i hi => putN_whole hi) rfl ⟨by rw [HRES.out], Below.grown B hg7 (HGS.out _ B) (by intro k hk; cases hk; exact l_t2)⟩
theorem sReduced_any (V : Nat) (w : World) (hV : V < 18446744073709551616 ^ 8) : Calls Try.prog 27 #[.agg (arrOf 8 (ewF V))] w fun e w' => e = .returned (.agg (arrOf 4 (ewF (V % ordL)))) ∧ Below w.heap.size w w' := reduced_upto (V + 1) V (Nat.lt_succ_self V) hV w
end Go.Proofs.Ytncdlaidmiokiaa
