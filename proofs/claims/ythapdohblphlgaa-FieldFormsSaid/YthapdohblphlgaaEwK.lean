/- The program's numbers below p: Strict. -/
import Derived.Test.YthapdohblphlgaaEwJ
import Derived.Test.YthapdohblphlgaaFeK
import Derived.Test.YthapdohblphlgaaRead
namespace Go.Proofs.Ythapdohblphlgaa
open Go.RowKit Go.Deep

theorem bytesSame_any (v1 v2 : Value) (l1 l2 : List UInt8) (w : World) (h1 : Bs w v1 l1) (h2 : Bs w v2 l2) :
    Calls Try.prog 51 #[v1, v2] w fun e w' => e = .returned (.bool (l1 == l2)) ∧ w' = w := by
  have c1 := h1.conv
  have c2 := h2.conv
  clear h1 h2
  go_enter Try.func51, Try.ntmps51
  go_wp2
  go_ret
  exact ⟨rfl, rfl⟩
theorem flatSame_any (v1 v2 : Value) (l1 l2 : List UInt8) (w : World) (h1 : Bs w v1 l1) (h2 : Bs w v2 l2) :
    Calls Try.prog 40 #[v1, v2] w fun e w' => e = .returned (.bool (decide (l1 = l2))) ∧ w' = w := by
  have hd : decide (l1 = l2) = (l1 == l2) := by
    by_cases h : l1 = l2
    · rw [decide_eq_true h, h]; simp
    · rw [decide_eq_false h, beq_eq_false_iff_ne.2 h]
  rw [hd]
  go_enter Try.func40, Try.ntmps40
  go_wp2_with fail
  refine (bytesSame_any v1 v2 l1 l2 _ h1 h2).mono ?_
  rintro e w' ⟨rfl, rfl⟩
  go_wp2
  go_ret
  exact ⟨rfl, rfl⟩
theorem strict_same (l : List UInt8) : strictL l = if litB (ofL l) 32 = l then some (ofL l) else none := by
  rw [strictL_eq]
  by_cases h : litB (ofL l) 32 = l
  · have hp : ofL l < p25 := mod_p_lt _
    have h1 : l.length = 32 := by rw [← h, litB_length]
    have h2 : numL l 32 = ofL l := by
      have h3 := numL_own (ofL l) hp
      rw [h] at h3
      exact h3
    rw [if_pos h, if_pos ⟨h1, by rw [h2]; exact hp⟩, h2]
  · rw [if_neg h, if_neg]
    rintro ⟨h1, h2⟩
    apply h
    rw [ofL_low l h2]
    exact litB_numL l 32 h1

set_option maxHeartbeats 2000000 in
theorem strict_any (v : Value) (l : List UInt8) (w : World) (hv : Bs w v l) : Calls Try.prog 15 #[v] w fun e w' =>
    e = .returned (.tuple #[.agg (arrOf 4 (ewF ((strictL l).getD 0))), .int .i64 (strictE (strictL l))]) ∧ Below w.heap.size w w' := by
  have hR0 := rowIs_arr w 4 (u64f fun _ => 0) 28
  have hb0 := (Below.refl w.heap.size w).alloc (Nat.le_refl _) (.cells (arrOf 4 (u64f fun _ => 0)) 28)
  have HV := Lib.hid (hv.below hb0 (Nat.le_refl _))
  have HV0 := Lib.hid hv
  have HGS : Hid (∀ wq : World, Below w.heap.size w wq → w.heap.size ≤ wq.heap.size) := Lib.hid fun wq h => h.size
  have hst := strict_same l
  obtain ⟨T, hT⟩ := nat_var (ofL l)
  rw [← hT] at hst
  have HOF := Lib.hid fun w (h : Bs w v l) => of_any v l w h
  rw [← hT] at HOF
  obtain ⟨bl, hbl⟩ : ∃ bl, bl = litB T 32 := ⟨_, rfl⟩
  have HBY := Lib.hid fun w => bytes_any T w
  rw [← hbl] at HBY hst
  have HST := Lib.hid hst
  clear hT hbl hst hv
  by_cases hs : bl = l
  · have hres := HST.out
    rw [if_pos hs] at hres
    have HRES := Lib.hid hres
    have HEQ := Lib.hid fun v1 v2 (w : World) (h1 : Bs w v1 bl) (h2 : Bs w v2 l) => flatSame_any v1 v2 bl l w h1 h2
    rw [decide_eq_true hs] at HEQ
    clear hres hs HST
    go_enter Try.func15, Try.ntmps15
    go_wp2_with (first
      | refine wpList_alloc_arr rfl 28 rfl (arrOf 4 (u64f fun _ => 0)) zeroE ?_
      | (go_at_call 13; refine (HOF.out _ HV.out).mono ?_; rintro e w5 ⟨rfl, hb5⟩
         have hR5 := hR0.of_block (hb5.block _ hR0.lt)
         have hB5 := hb0.trans (hb5.mono (HGS.out _ hb0))
         have hl5 := hR5.lt
         have hR6 := hR5.alloc (.cells (arrOf 4 (u64f fun _ => 0)) 28)
         have hX6 := rowIs_arr w5 4 (u64f fun _ => 0) 28
         have hB6 := hB5.alloc (HGS.out _ hB5) (.cells (arrOf 4 (u64f fun _ => 0)) 28)
         clear hR0 hb0 hb5 hR5 HOF)
      | (refine wpList_store_arr rfl 28 (.tmp 4) (.tmp 6) rfl 4 arrE hX6 rfl rfl (by omega) (fun _ _ => rfl) ?_; intro w7 hr7 hg7 hs7
         have hX7 : w7.rowIs w5.heap.size 28 4 (ewF T) := hr7.congr fun i hi => by unfold putN; rw [if_pos (by omega), Nat.sub_zero]
         have hR7 := gb_rowIs hR6 hg7 (Nat.ne_of_lt hl5)
         have hB7 := hB6.grown hg7 (HGS.out _ hB6) (by intro k hk; cases hk; exact HGS.out _ hB5)
         clear hR6 hX6 hB6 hr7 hg7 hs7 hB5)
      | (refine wpList_load_arr rfl 28 (.tmp 4) rfl 4 arrE hX7 rfl (by omega) ?_; simp only [Nat.zero_add])
      | (go_at_call 35; refine (HBY.out _).mono ?_; rintro e w8 ⟨vb, rfl, hown8, hb8⟩
         have hR8 := hR7.of_block (hb8.block _ hR7.lt)
         have hX8 := hX7.of_block (hb8.block _ hX7.lt)
         have hB8 := hB7.trans (hb8.mono (HGS.out _ hB7))
         have hv8 := HV0.out.below hB8 (Nat.le_refl _)
         have hbs8 := hown8.bs
         clear hR7 hX7 hB7 hb8 hown8 HBY)
      | (go_at_call 40; refine (HEQ.out _ _ _ hbs8 hv8).mono ?_; rintro e w9 ⟨rfl, rfl⟩)
      | (refine wpList_load_arr rfl 28 (.tmp 4) rfl 4 arrE hX8 rfl (by omega) ?_; simp only [Nat.zero_add])
      | (refine wpList_store_arr rfl 28 (.tmp 2) (.tmp 13) rfl 4 arrE hR8 rfl rfl (by omega) (fun _ _ => rfl) ?_; intro wz hrz hgz hsz))
    refine ret_cell_arr_tmp rfl arrE hrz rfl rfl (by omega) rfl ⟨?_, hB8.grown hgz (HGS.out _ hB8) (by intro k hk; cases hk; exact Nat.le_refl _)⟩
    rw [agg_putW, HRES.out]
    rfl
  · have hres := HST.out
    rw [if_neg hs] at hres
    have HRES := Lib.hid hres
    have HEQ := Lib.hid fun v1 v2 (w : World) (h1 : Bs w v1 bl) (h2 : Bs w v2 l) => flatSame_any v1 v2 bl l w h1 h2
    rw [decide_eq_false hs] at HEQ
    clear hres hs HST
    go_enter Try.func15, Try.ntmps15
    go_wp2_with (first
      | refine wpList_alloc_arr rfl 28 rfl (arrOf 4 (u64f fun _ => 0)) zeroE ?_
      | (go_at_call 13; refine (HOF.out _ HV.out).mono ?_; rintro e w5 ⟨rfl, hb5⟩
         have hR5 := hR0.of_block (hb5.block _ hR0.lt)
         have hB5 := hb0.trans (hb5.mono (HGS.out _ hb0))
         have hl5 := hR5.lt
         have hR6 := hR5.alloc (.cells (arrOf 4 (u64f fun _ => 0)) 28)
         have hX6 := rowIs_arr w5 4 (u64f fun _ => 0) 28
         have hB6 := hB5.alloc (HGS.out _ hB5) (.cells (arrOf 4 (u64f fun _ => 0)) 28)
         clear hR0 hb0 hb5 hR5 HOF)
      | (refine wpList_store_arr rfl 28 (.tmp 4) (.tmp 6) rfl 4 arrE hX6 rfl rfl (by omega) (fun _ _ => rfl) ?_; intro w7 hr7 hg7 hs7
         have hX7 : w7.rowIs w5.heap.size 28 4 (ewF T) := hr7.congr fun i hi => by unfold putN; rw [if_pos (by omega), Nat.sub_zero]
         have hR7 := gb_rowIs hR6 hg7 (Nat.ne_of_lt hl5)
         have hB7 := hB6.grown hg7 (HGS.out _ hB6) (by intro k hk; cases hk; exact HGS.out _ hB5)
         clear hR6 hX6 hB6 hr7 hg7 hs7 hB5)
      | (refine wpList_load_arr rfl 28 (.tmp 4) rfl 4 arrE hX7 rfl (by omega) ?_; simp only [Nat.zero_add])
      | (go_at_call 35; refine (HBY.out _).mono ?_; rintro e w8 ⟨vb, rfl, hown8, hb8⟩
         have hR8 := hR7.of_block (hb8.block _ hR7.lt)
         have hB8 := hB7.trans (hb8.mono (HGS.out _ hB7))
         have hv8 := HV0.out.below hB8 (Nat.le_refl _)
         have hbs8 := hown8.bs
         clear hR7 hX7 hB7 hb8 hown8 HBY)
      | (go_at_call 40; refine (HEQ.out _ _ _ hbs8 hv8).mono ?_; rintro e w9 ⟨rfl, rfl⟩)
      | refine wpList_build_arr rfl 28 _ rfl (arrOf 4 (ewF 0)) (by kernel_rfl) ?_
      | (refine wpList_store_arr rfl 28 (.tmp 2) (.tmp 12) rfl 4 arrE hR8 rfl rfl (by omega) (fun _ _ => rfl) ?_; intro wz hrz hgz hsz))
    refine ret_cell_arr_tmp rfl arrE hrz rfl rfl (by omega) rfl ⟨?_, hB8.grown hgz (HGS.out _ hB8) (by intro k hk; cases hk; exact Nat.le_refl _)⟩
    rw [agg_putW, HRES.out]
    rfl
end Go.Proofs.Ythapdohblphlgaa
