/- The document's own permutation. -/
import Derived.Test.YtmfogngfdgpahaaDoorKecR3
import Derived.Test.YtmfogngfdgpahaaDoorKecR4
import Derived.Test.YtmfogngfdgpahaaDoorKecR5
import Derived.Test.YtmfogngfdgpahaaDoorKecC
namespace Go.Proofs.YtmfogngfdgpahaaDoor
open Go.RowKit Go.Deep

theorem zero5 : (Tryd.prog.info? 54).map (fun i => i.zero) = some (some (.agg (arrOf 5 fun _ => .int .u64 0))) := by kernel_rfl
theorem chiS_congr {a b : Nat → BitVec 64} (h : ∀ i, i < 25 → a i = b i) (i : Nat) (hi : i < 25) : chiS a i = chiS b i := by
  unfold chiS
  rw [h i hi, h (i / 5 * 5 + (i + 1) % 5) (by omega), h (i / 5 * 5 + (i + 2) % 5) (by omega)]
theorem ref_round (r : Nat) (hr : r < 24) (s : Nat → BitVec 64) (i : Nat) (hi : i < 25) : ioM (chiS (walkB (thetaS s) 24)) (markTo (7 * r) 7) i = roundS r s i := by
  have h : ∀ i, i < 25 → chiS (walkB (thetaS s) 24) i = chiS (piS (rhoS (thetaS s))) i := chiS_congr (walkB_all (thetaS s))
  unfold ioM roundS iotaS
  rw [markTo_all r hr, h 0 (by omega), h i hi]

set_option maxHeartbeats 16000000 in
set_option maxRecDepth 100000 in
theorem refPermute_any (s : Nat → BitVec 64) (w : World) :
    Calls Tryd.prog 19 #[.agg (arrOf 25 (l64 s))] w fun e w' => e = .returned (.agg (arrOf 25 (l64 (keccak s)))) ∧ Below w.heap.size w w' := by
  go_enter Tryd.func19, Tryd.ntmps19
  have hA := (rowIs_arr w 25 (l64 s) 34).alloc (.cells (arrOf 25 fun _ => .int .u64 0) 34)
  have hR := rowIs_arr (w.alloc (.cells (arrOf 25 (l64 s)) 34)) 25 (fun _ => .int .u64 0) 34
  have hb : Below w.heap.size w ((w.alloc (.cells (arrOf 25 (l64 s)) 34)).alloc (.cells (arrOf 25 fun _ => .int .u64 0) 34)) :=
    ((Below.refl _ _).alloc (Nat.le_refl _) _).alloc (by simp only [World.size_alloc]; omega) _
  simp only [World.size_alloc] at hA hR
  go_wp2_with (refine wpList_alloc_arr rfl 34 rfl (arrOf 25 fun _ => .int .u64 0) zero25 ?_)
  have hne : w.heap.size ≠ w.heap.size + 1 := by omega
  have hrw : w.heap.size ≤ w.heap.size + 1 := by omega
  generalize hre : w.heap.size + 1 = rb at *
  generalize hae : w.heap.size = ab at *
  have HA := Lib.hid hae
  clear hre hae
  go_loopw [3, 4] (fun l i wr => ∃ r : Nat, r ≤ 24 ∧ i = .int .i64 r ∧ l = .int .u8 ((regAt (7 * r) : Nat) : Int) ∧ wr.rowIs ab 34 25 (l64 (roundsS s r)) ∧ wr.rowIs rb 34 25 (fun _ => .int .u64 0) ∧ Below ab w wr) (fun _ i _ => 24 - (intOf i).toNat)
  case atStart => exact ⟨0, Nat.zero_le _, rfl, rfl, hA, hR, hb⟩
  case round =>
    clear hA hR hb
    obtain ⟨r, hr, rfl, rfl, hA, hR, hb⟩ := hrel
    by_cases hlt : r < 24
    · have hC := rowIs_arr wr 5 (fun _ => .int .u64 0) 54
      have hA1 := hA.alloc (.cells (arrOf 5 fun _ => .int .u64 0) 54)
      have hR1 := hR.alloc (.cells (arrOf 5 fun _ => .int .u64 0) 54)
      have hab : ab < wr.heap.size := hA.lt
      have hrb : rb < wr.heap.size := hR.lt
      have hb1 := hb.alloc (Nat.le_of_lt hab) (.cells (arrOf 5 fun _ => .int .u64 0) 54)
      clear hA hR hb
      go_wp2_with (refine wpList_alloc_arr rfl 54 rfl (arrOf 5 fun _ => .int .u64 0) zero5 ?_)
      refine refP_col ab wr.heap.size (roundsS s r) (by omega) hA1 hC ?_
      intros
      rename_i w2 h2
      obtain ⟨hC2, hg2⟩ := h2
      have hA2 := gb_rowIs hA1 hg2 (by omega)
      have hR2 := gb_rowIs hR1 hg2 (by omega)
      have hs2 : wr.heap.size + 1 ≤ w2.heap.size := by have := hg2.size; simpa using this
      have hb2 := gb_below hb1 hg2 (by simp only [World.size_alloc]; omega) (by omega)
      generalize hce : wr.heap.size = cb at *
      clear hA1 hR1 hb1 hC hg2 hce
      go_wp2
      refine refP_theta ab cb (roundsS s r) (by omega) hA2 hC2 ?_
      intros
      rename_i w3 h3
      obtain ⟨hA3, hg3⟩ := h3
      have hR3 := gb_rowIs hR2 hg3 (Ne.symm hne)
      have hb3 := gb_below hb2 hg3 (by omega) (Nat.le_refl _)
      have hs3 : cb + 1 ≤ w3.heap.size := by have := hg3.size; omega
      clear hA2 hR2 hb2 hC2 hg3 hs2
      have hB := rowIs_arr w3 25 (fun _ => .int .u64 0) 34
      have hA4 := hA3.alloc (.cells (arrOf 25 fun _ => .int .u64 0) 34)
      have hR4 := hR3.alloc (.cells (arrOf 25 fun _ => .int .u64 0) 34)
      have hb4 := hb3.alloc (by omega) (.cells (arrOf 25 fun _ => .int .u64 0) 34)
      have c0 := hA4.cell (i := 0) (by omega)
      have cb0 := hB.cell (i := 0) (by omega)
      have hfr := hB.frozen 0
      unfold l64 at c0
      go_wp2_with (refine wpList_alloc_arr rfl 34 rfl (arrOf 25 fun _ => .int .u64 0) zero25 ?_)
      have hbb : ab < w3.heap.size := by omega
      have hrr : rb < w3.heap.size := by omega
      generalize hoe : Obj.cells ((arrOf 25 fun _ => .int .u64 0).setIfInBounds 0 (.int .u64 ((thetaS (roundsS s r) 0).toNat : Int))) 34 = ob
      have hA5 := hA3.alloc ob
      have hR5 := hR3.alloc ob
      have hb5 := hb3.alloc (by omega) ob
      have hB5 : (w3.alloc ob).rowIs w3.heap.size 34 25 (l64 (walkB (thetaS (roundsS s r)) 0)) := by
        subst hoe
        have h := World.rowIs_alloc w3 ((arrOf 25 fun _ => .int .u64 0).setIfInBounds 0 (.int .u64 ((thetaS (roundsS s r) 0).toNat : Int))) 34 (l64 (walkB (thetaS (roundsS s r)) 0)) (fun i hi => by
          have hi25 : i < 25 := by simpa [arrOf_size] using hi
          show _ = some (Value.int .u64 (((if i = 0 then thetaS (roundsS s r) 0 else 0 : BitVec 64)).toNat : Int))
          rw [Array.getElem?_setIfInBounds]
          by_cases e : i = 0
          · subst e
            rw [if_pos rfl, if_pos (by rw [arrOf_size]; omega), if_pos rfl]
          · rw [if_neg (by omega), arrOf_get 25 _ i hi25, if_neg e]; rfl)
        simpa [arrOf_size] using h
      have hs5 : w3.heap.size + 1 ≤ (w3.alloc ob).heap.size := by simp
      clear hA4 hR4 hb4 hB c0 cb0 hfr hA3 hR3 hb3 hoe
      generalize hwe : w3.alloc ob = w5 at *
      generalize hbe : w3.heap.size = bb at *
      clear hwe hbe
      refine refP_walk ab bb (thetaS (roundsS s r)) (by omega) hA5 hB5 ?_
      intros
      rename_i w6 h6
      obtain ⟨hB6, hg6⟩ := h6
      have hA6 := gb_rowIs hA5 hg6 (by omega)
      have hR6 := gb_rowIs hR5 hg6 (by omega)
      have hb6 := gb_below hb5 hg6 (by omega) (by omega)
      have hs6 : bb + 1 ≤ w6.heap.size := by have := hg6.size; omega
      clear hA5 hR5 hb5 hB5 hg6 hs5
      go_wp2
      refine refP_chi ab bb (thetaS (roundsS s r)) (walkB (thetaS (roundsS s r)) 24) (by omega) hA6 hB6 ?_
      intros
      rename_i w7 h7
      obtain ⟨hA7, hg7⟩ := h7
      have hR7 := gb_rowIs hR6 hg7 (Ne.symm hne)
      have hb7 := gb_below hb6 hg7 (by omega) (Nat.le_refl _)
      have hs7 : bb + 1 ≤ w7.heap.size := by have := hg7.size; omega
      clear hA6 hR6 hb6 hB6 hg7 hs6
      go_wp2
      refine refP_iota ab (7 * r) (chiS (walkB (thetaS (roundsS s r)) 24)) (by omega) hA7 ?_
      intros
      rename_i w8 h8
      obtain ⟨hA8, hg8⟩ := h8
      have hR8 := gb_rowIs hR7 hg8 (Ne.symm hne)
      have hb8 := gb_below hb7 hg8 (by omega) (Nat.le_refl _)
      clear hA7 hR7 hb7 hg8 hs7
      go_wp2
      go_roundw
      case rel =>
        (try ((repeat apply Exists.intro); refine ⟨?_, rfl⟩))
        exact ⟨r + 1, by omega, by go_num, rfl, hA8.congr fun i hi => congrArg (fun x : BitVec 64 => Value.int .u64 (x.toNat : Int)) (ref_round r hlt (roundsS s r) i hi), hR8, hb8⟩
      case measure => simp [intOf]; omega
    · obtain rfl : r = 24 := by omega
      go_wp2_with (first
        | refine wpList_load_arr rfl 34 (.tmp 1) rfl 25 arr25 hA rfl (by omega) ?_
        | (refine wpList_store_arr rfl 34 (.tmp 2) (.tmp 204) rfl 25 arr25 hR rfl rfl (by omega) (fun _ _ => rfl) ?_; intro w5 hR5 hg5 hs5))
      refine ret_cell_arr rfl arr25 hR5 rfl (by omega) rfl ⟨?_, ?_⟩
      · refine congrArg (fun x => Ending.returned (.agg x)) (arrOf_congr fun i hi => ?_)
        unfold putN
        rw [if_pos (by omega)]
        show l64 (roundsS s 24) (0 + (0 + i - 0)) = _
        rw [Nat.zero_add, Nat.zero_add, Nat.sub_zero]
        rfl
      · rw [HA.out]
        exact gb_below hb hg5 (by have := hb.size; rw [HA.out] at this; exact this) hrw
end Go.Proofs.YtmfogngfdgpahaaDoor
