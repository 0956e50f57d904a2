/- Eight words: sha2's all and plus; the first states and the rounds' numbers, the program's and the document's. -/
import Derived.Test.YtladojcbbhphfaaArr
import Derived.Test.YtladojcbbhphfaaWord
namespace Go.Proofs.Ytladojcbbhphfaa
open Go.RowKit Go.Deep

def w32 (s : Nat → BitVec 32) : Nat → Value := fun i => .int .u32 ((s i).toNat : Int)
theorem w32_one (s : Nat → BitVec 32) (n : Nat) : ∀ j, j < n → (w32 s j).oneCell' = true := fun _ _ => rfl
theorem zero8_32 : (Try.prog.info? 54).map (fun i => i.zero) = some (some (.agg (arrOf 8 fun _ => .int .u32 0))) := by kernel_rfl
theorem arr8_32 : IsArr Try.prog 54 8 := ⟨by kernel_rfl, by kernel_rfl⟩

set_option maxHeartbeats 400000 in
theorem all32_any (s : Nat → BitVec 32) (w : World) :
    Calls Try.prog 41 #[.agg (arrOf 8 (w32 s))] w fun e w' => e = .returned (.tuple #[w32 s 0, w32 s 1, w32 s 2, w32 s 3, w32 s 4, w32 s 5, w32 s 6, w32 s 7]) ∧ Below w.heap.size w w' := by
  have hrow := World.rowIs_alloc w (arrOf 8 (w32 s)) 54 (w32 s) (fun i hi => arrOf_get 8 _ i (by rw [arrOf_size] at hi; exact hi))
  rw [arrOf_size] at hrow
  have h0 := hrow.cell (i := 0) (by omega)
  have h1 := hrow.cell (i := 1) (by omega)
  have h2 := hrow.cell (i := 2) (by omega)
  have h3 := hrow.cell (i := 3) (by omega)
  have h4 := hrow.cell (i := 4) (by omega)
  have h5 := hrow.cell (i := 5) (by omega)
  have h6 := hrow.cell (i := 6) (by omega)
  have h7 := hrow.cell (i := 7) (by omega)
  have hb : Below w.heap.size w (w.alloc (.cells (arrOf 8 (w32 s)) 54)) := (Below.refl _ _).alloc (Nat.le_refl _) _
  clear hrow
  go_enter Try.func41, Try.ntmps41
  go_wp2
  go_quiet (fail)
  go_wp2
  refine bodyPost_ret (v := .tuple #[w32 s 0, w32 s 1, w32 s 2, w32 s 3, w32 s 4, w32 s 5, w32 s 6, w32 s 7]) (by simp [results, Try.results41, go_sem]) rfl ⟨rfl, below_drewN hb _⟩

set_option maxHeartbeats 400000 in
theorem plus32_any (s t : Nat → BitVec 32) (w : World) :
    Calls Try.prog 46 #[.agg (arrOf 8 (w32 s)), .agg (arrOf 8 (w32 t))] w fun e w' => e = .returned (.agg (arrOf 8 (w32 fun i => s i + t i))) ∧ Below w.heap.size w w' := by
  go_enter Try.func46, Try.ntmps46
  have hA := ((rowIs_arr w 8 (w32 s) 54).alloc (.cells (arrOf 8 (w32 t)) 54)).alloc (.cells (arrOf 8 fun _ => .int .u32 0) 54)
  have hB := (rowIs_arr (w.alloc (.cells (arrOf 8 (w32 s)) 54)) 8 (w32 t) 54).alloc (.cells (arrOf 8 fun _ => .int .u32 0) 54)
  have hC := rowIs_arr ((w.alloc (.cells (arrOf 8 (w32 s)) 54)).alloc (.cells (arrOf 8 (w32 t)) 54)) 8 (fun _ => .int .u32 0) 54
  have hb : Below w.heap.size w (((w.alloc (.cells (arrOf 8 (w32 s)) 54)).alloc (.cells (arrOf 8 (w32 t)) 54)).alloc (.cells (arrOf 8 fun _ => .int .u32 0) 54)) :=
    (((Below.refl _ _).alloc (Nat.le_refl _) _).alloc (by simp only [World.size_alloc]; omega) _).alloc (by simp only [World.size_alloc]; omega) _
  simp only [World.size_alloc] at hA hB hC
  go_wp2_with (first
    | refine wpList_alloc_arr rfl 54 rfl (arrOf 8 fun _ => .int .u32 0) zero8_32 ?_
    | refine wpList_load_arr rfl 54 (.tmp 3) rfl 8 arr8_32 hB rfl (by omega) ?_)
  go_loopw [8] (fun i wr => ∃ j : Nat, j ≤ 8 ∧ i = .int .i64 j ∧ wr.rowIs w.heap.size 54 8 (fun i => .int .u32 ((if i < j then s i + t i else s i).toNat : Int)) ∧
    wr.rowIs (w.heap.size + 1 + 1) 54 8 (fun _ => .int .u32 0) ∧ Below w.heap.size w wr) (fun i _ => 8 - (intOf i).toNat)
  case atStart => exact ⟨0, Nat.zero_le _, rfl, hA.congr fun i _ => rfl, hC, hb⟩
  case round =>
    obtain ⟨j, hj, rfl, hrow, hres, hbel⟩ := hrel
    clear hA hB hC hb
    by_cases hlt : j < 8
    · have hcell := hrow.cell hlt
      rw [if_neg (by omega)] at hcell
      have hfr := hrow.frozen j
      have hw : w32 t j = .int .u32 ((t j).toNat : Int) := rfl
      go_wp2_with (refine wpList_index_arr rfl 54 53 (.tmp 7) (.tmp 8) rfl 8 Try.underlying54 _ Try.underlying53 rfl (by kernel_rfl) rfl rfl hlt ?_)
      go_roundw
      case rel =>
        refine ⟨j + 1, by omega, by go_num, (hrow.set j _).congr fun i hi => ?_, hres.setOther (by show w.heap.size + 1 + 1 ≠ w.heap.size; omega) _, hbel.setCell (Nat.le_refl _) _⟩
        show (if i = j then _ else _) = _
        by_cases e : i = j
        · subst e
          rw [if_pos rfl, if_pos (by omega)]
          exact congrArg (Value.int .u32) (add32 _ _)
        · rw [if_neg e]
          by_cases h2 : i < j
          · rw [if_pos h2, if_pos (by omega)]
          · rw [if_neg h2, if_neg (by omega)]
      case measure => simp [intOf]; omega
    · obtain rfl : j = 8 := by omega
      have hrow8 : wr.rowIs w.heap.size 54 8 (w32 fun i => s i + t i) := hrow.congr fun i hi => by rw [if_pos hi]; rfl
      go_wp2_with (first
        | refine wpList_load_arr rfl 54 (.tmp 2) rfl 8 arr8_32 hrow8 rfl (by omega) ?_
        | (refine wpList_store_arr rfl 54 (.tmp 4) (.tmp 19) rfl 8 arr8_32 hres rfl rfl (by omega) (fun _ _ => rfl) ?_; intro w2 hr2 hg2 hs2))
      refine ret_cell_arr rfl arr8_32 hr2 rfl (by omega) rfl ⟨?_, hbel.grown hg2 hbel.size (by intro k hk; cases hk; omega)⟩
      congr 2

def w64 (s : Nat → BitVec 64) : Nat → Value := fun i => .int .u64 ((s i).toNat : Int)
theorem w64_one (s : Nat → BitVec 64) (n : Nat) : ∀ j, j < n → (w64 s j).oneCell' = true := fun _ _ => rfl
theorem zero8_64 : (Try.prog.info? 51).map (fun i => i.zero) = some (some (.agg (arrOf 8 fun _ => .int .u64 0))) := by kernel_rfl
theorem arr8_64 : IsArr Try.prog 51 8 := ⟨by kernel_rfl, by kernel_rfl⟩

end Go.Proofs.Ytladojcbbhphfaa
