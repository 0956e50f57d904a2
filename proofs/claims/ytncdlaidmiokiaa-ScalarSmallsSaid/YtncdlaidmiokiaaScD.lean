/- The document's numbers below L: Bytes, Wide, Bit. -/
import Derived.Test.YtncdlaidmiokiaaScC
namespace Go.Proofs.Ytncdlaidmiokiaa
open Go.RowKit Go.Deep
set_option linter.unusedSimpArgs false
set_option linter.unusedVariables false

theorem numL_congr {l m : List UInt8} : ∀ k, (∀ i, i < k → l.getD i 0 = m.getD i 0) → numL l k = numL m k
  | 0, _ => rfl
  | k + 1, h => by
    rw [numL, numL, numL_congr k (fun i hi => h i (by omega)), h k (by omega)]
theorem numL_cons (x : UInt8) (l : List UInt8) : ∀ k, numL (x :: l) (k + 1) = x.toNat + 256 * numL l k
  | 0 => by simp [numL]
  | k + 1 => by
    rw [numL, numL_cons x l k, numL]
    rw [show (x :: l).getD (k + 1) 0 = l.getD k 0 from rfl, Nat.pow_succ, Nat.mul_add]
    have : (l.getD k 0).toNat * (256 ^ k * 256) = 256 * ((l.getD k 0).toNat * 256 ^ k) := by ac_rfl
    omega
theorem expB_congr {l m : List UInt8} : ∀ k, (∀ i, i < k → l.getD i 0 = m.getD i 0) → expB l k = expB m k
  | 0, _ => rfl
  | k + 1, h => by
    rw [expB, expB, expB_congr k (fun i hi => h i (by omega)), h k (by omega)]
theorem expB_rev : ∀ (k : Nat) (M : List UInt8), M.length = k → expB M k = numL M.reverse k
  | 0, _, _ => rfl
  | k + 1, M, h => by
    have hne : M ≠ [] := by intro e; subst e; simp at h
    obtain ⟨N, x, rfl⟩ : ∃ N x, M = N ++ [x] := ⟨M.dropLast, M.getLast hne, (List.dropLast_concat_getLast hne).symm⟩
    have hN : N.length = k := by simpa using h
    rw [List.reverse_append, List.reverse_singleton, List.singleton_append, numL_cons, ← expB_rev k N hN, expB]
    rw [show (N ++ [x]).getD k 0 = x by rw [List.getD_eq_getElem?_getD, List.getElem?_append_right (by omega), hN]; simp]
    rw [expB_congr k (l := N ++ [x]) (m := N) fun i hi => by rw [List.getD_eq_getElem?_getD, List.getD_eq_getElem?_getD, List.getElem?_append_left (by omega)]]
    omega
/-- The first n bytes, a byte that is wanting is nothing. -/
def fillN (l : List UInt8) (n : Nat) : List UInt8 := (List.range n).map fun i => l.getD i 0
theorem fillN_length (l : List UInt8) (n : Nat) : (fillN l n).length = n := by simp [fillN]
theorem fillN_getD (l : List UInt8) (n i : Nat) (h : i < n) : (fillN l n).getD i 0 = l.getD i 0 := by
  unfold fillN
  rw [List.getD_eq_getElem?_getD, List.getElem?_map, List.getElem?_range h]
  rfl
theorem fillN_rev (l : List UInt8) (n : Nat) : expB (fillN l n).reverse n = numL l n := by
  rw [expB_rev n _ (by rw [List.length_reverse, fillN_length]), List.reverse_reverse]
  exact numL_congr n fun i hi => fillN_getD l n i hi
theorem beL_rev (V : Nat) : (beL V).reverse = litB V 32 := by unfold beL; rw [List.reverse_reverse]
theorem undSc : Try.prog.underlying 30 = some (.array 32 5) := by kernel_rfl
theorem infoU8 : (Try.prog.info? 5).map (fun i => i.size) = some 1 := by kernel_rfl
set_option maxHeartbeats 1000000 in
theorem refScBytes_any (V : Nat) (w : World) : Calls Try.prog 32 #[.agg (arrOf 32 (bF 32 V))] w fun e w' => ∃ v, e = .returned v ∧ Owns w' w.heap.size v (litB V 32) ∧ Below w.heap.size w w' := by
  have hr := rowIs_arr w 32 (bF 32 V) 30
  have hb0 := (Below.refl w.heap.size w).alloc (Nat.le_refl _) (.cells (arrOf 32 (bF 32 V)) 30)
  have hBs := Bs.of_part2 (off := 0) (n := 32) hr (beL V) (beL_length V) (by omega) (by unfold maxLen; omega) fun i hi => by
    rw [beL_at]
    unfold bF
    rw [Nat.zero_add]
  have HT := Lib.hid (refTurned_any _ (beL V) _ hBs (by rw [beL_length]; omega))
  rw [beL_rev] at HT
  have HB0 := Lib.hid hb0
  clear hr hBs hb0
  go_enter Try.func32, Try.ntmps32
  go_wp2_with (first
    | refine wpList_op rfl (.slice 30 (.tmp 1) none none none) 22 (.slice (some ⟨w.heap.size, 0, none⟩) 32 32) rfl rfl (exec_sliceAll _ _ _ _ _ undSc infoU8 rfl (by omega)) ?_
    | (go_at_call 29; refine HT.out.mono ?_; rintro e w1 ⟨v1, rfl, hO, hb⟩))
  go_ret
  exact ⟨_, rfl, hO.lower (by simp), HB0.out.trans (hb.mono (by simp))⟩
set_option maxHeartbeats 1000000 in
theorem refWide_any (v : Value) (l : List UInt8) (w : World) (hv : Bs w v l) : Calls Try.prog 10 #[v] w fun e w' => e = .returned (.agg (arrOf 32 (bF 32 (numL l 64 % ordL)))) ∧ Below w.heap.size w w' := by
  have hr := rowIs_arr w 32 (fun _ => .int .u8 0) 30
  have hb0 := (Below.refl w.heap.size w).alloc (Nat.le_refl _) (.cells (arrOf 32 fun _ => .int .u8 0) 30)
  have HF := Lib.hid (refFillRow_any v l 64 _ (hv.below hb0 (Nat.le_refl _)) (by omega) (by omega))
  have hlen : (fillN l 64).reverse.length = 64 := by rw [List.length_reverse, fillN_length]
  have HM := Lib.hid fun v w (h : Bs w v (fillN l 64).reverse) => refMod_any v (fillN l 64).reverse w h (by rw [hlen]; omega)
  rw [hlen, fillN_rev] at HM
  obtain ⟨V, hV⟩ := nat_var (numL l 64 % ordL)
  rw [← hV] at HM ⊢
  clear hV
  have HGS : Hid (∀ wq : World, Below w.heap.size w wq → w.heap.size ≤ wq.heap.size) := Lib.hid fun wq h => h.size
  have HFL := Lib.hid (fillN_length l 64)
  have HFG := Lib.hid fun i (h : i < 64) => fillN_getD l 64 i h
  obtain ⟨L64, hL64⟩ : ∃ L, L = fillN l 64 := ⟨_, rfl⟩
  rw [← hL64] at HM HFL HFG
  clear hv hlen hL64
  go_enter Try.func10, Try.ntmps10
  go_wp2_with (first
    | refine wpList_alloc_arr rfl 30 rfl (arrOf 32 fun _ => .int .u8 0) zeroSc ?_
    | (go_at_call 30; refine HF.out.mono ?_; rintro e w1 ⟨rfl, hr1, hb1⟩; rw [World.size_alloc] at hr1
       have k1 := hr.of_block (hb1.block _ hr.lt)
       have B1 := hb0.trans (hb1.mono hb0.size)
       have hBs := Bs.of_part2 (off := 0) (n := 64) hr1 L64 HFL.out (by omega) (by unfold maxLen; omega) fun i hi => by
         rw [← getD_at _ i hi, HFG.out i (by rwa [HFL.out] at hi), Nat.zero_add]
         rfl
       clear hr hb0 hr1 hb1)
    | (go_at_call 29; refine (refTurned_any _ L64 _ hBs (by rw [HFL.out]; omega)).mono ?_; rintro e w2 ⟨v2, rfl, hO, hb2⟩
       have k2 := k1.of_block (hb2.block _ k1.lt)
       have B2 := B1.trans (hb2.mono (HGS.out _ B1))
       have hB2 := hO.bs
       clear k1 B1 hO hb2 hBs)
    | (go_at_call 28; refine (HM.out _ _ hB2).mono ?_; rintro e w3 ⟨rfl, hb3⟩
       have k3 := k2.of_block (hb3.block _ k2.lt)
       have B3 := B2.trans (hb3.mono (HGS.out _ B2))
       clear k2 B2 hB2 hb3)
    | (refine wpList_store_arr rfl 30 (.tmp 2) (.tmp 6) rfl 32 arrSc k3 rfl rfl (by omega) (fun _ _ => rfl) ?_; intro w4 hr4 hg4 hs4))
  refine ret_cell_arr rfl arrSc hr4 rfl (by omega) rfl ⟨?_, B3.grown hg4 (HGS.out _ B3) (by intro k hk; cases hk; exact Nat.le_refl _)⟩
  refine congrArg (fun x => Ending.returned (.agg x)) (arrOf_congr fun i hi => ?_)
  unfold putN
  rw [if_pos (by omega), Nat.zero_add, Nat.sub_zero]
end Go.Proofs.Ytncdlaidmiokiaa
