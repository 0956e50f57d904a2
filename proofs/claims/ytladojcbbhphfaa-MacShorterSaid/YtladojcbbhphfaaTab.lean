/- The numbers of the standard: the rounds' and the first states; the program's tables of them, and the document's. -/
import Derived.Test.YtladojcbbhphfaaState
namespace Go.Proofs.Ytladojcbbhphfaa
open Go.RowKit Go.Deep

def kNums : List Nat := [0x428a2f98d728ae22, 0x7137449123ef65cd, 0xb5c0fbcfec4d3b2f, 0xe9b5dba58189dbbc, 0x3956c25bf348b538, 0x59f111f1b605d019, 0x923f82a4af194f9b, 0xab1c5ed5da6d8118,
  0xd807aa98a3030242, 0x12835b0145706fbe, 0x243185be4ee4b28c, 0x550c7dc3d5ffb4e2, 0x72be5d74f27b896f, 0x80deb1fe3b1696b1, 0x9bdc06a725c71235, 0xc19bf174cf692694,
  0xe49b69c19ef14ad2, 0xefbe4786384f25e3, 0x0fc19dc68b8cd5b5, 0x240ca1cc77ac9c65, 0x2de92c6f592b0275, 0x4a7484aa6ea6e483, 0x5cb0a9dcbd41fbd4, 0x76f988da831153b5,
  0x983e5152ee66dfab, 0xa831c66d2db43210, 0xb00327c898fb213f, 0xbf597fc7beef0ee4, 0xc6e00bf33da88fc2, 0xd5a79147930aa725, 0x06ca6351e003826f, 0x142929670a0e6e70,
  0x27b70a8546d22ffc, 0x2e1b21385c26c926, 0x4d2c6dfc5ac42aed, 0x53380d139d95b3df, 0x650a73548baf63de, 0x766a0abb3c77b2a8, 0x81c2c92e47edaee6, 0x92722c851482353b,
  0xa2bfe8a14cf10364, 0xa81a664bbc423001, 0xc24b8b70d0f89791, 0xc76c51a30654be30, 0xd192e819d6ef5218, 0xd69906245565a910, 0xf40e35855771202a, 0x106aa07032bbd1b8,
  0x19a4c116b8d2d0c8, 0x1e376c085141ab53, 0x2748774cdf8eeb99, 0x34b0bcb5e19b48a8, 0x391c0cb3c5c95a63, 0x4ed8aa4ae3418acb, 0x5b9cca4f7763e373, 0x682e6ff3d6b2b8a3,
  0x748f82ee5defb2fc, 0x78a5636f43172f60, 0x84c87814a1f0ab72, 0x8cc702081a6439ec, 0x90befffa23631e28, 0xa4506cebde82bde9, 0xbef9a3f7b2c67915, 0xc67178f2e372532b,
  0xca273eceea26619c, 0xd186b8c721c0c207, 0xeada7dd6cde0eb1e, 0xf57d4f7fee6ed178, 0x06f067aa72176fba, 0x0a637dc5a2c898a6, 0x113f9804bef90dae, 0x1b710b35131c471b,
  0x28db77f523047d84, 0x32caab7b40c72493, 0x3c9ebe0a15c9bebc, 0x431d67c49c100d4c, 0x4cc5d4becb3e42b6, 0x597f299cfc657e2a, 0x5fcb6fab3ad6faec, 0x6c44198c4a475817]
def iNums : List Nat := [0x6a09e667f3bcc908, 0xbb67ae8584caa73b, 0x3c6ef372fe94f82b, 0xa54ff53a5f1d36f1, 0x510e527fade682d1, 0x9b05688c2b3e6c1f, 0x1f83d9abfb41bd6b, 0x5be0cd19137e2179]
def K64 (i : Nat) : BitVec 64 := BitVec.ofNat 64 (kNums.getD i 0)
def K32 (i : Nat) : BitVec 32 := BitVec.ofNat 32 ((K64 i).toNat / 2 ^ 32)
def I64 (i : Nat) : BitVec 64 := BitVec.ofNat 64 (iNums.getD i 0)
def I32 (i : Nat) : BitVec 32 := BitVec.ofNat 32 ((I64 i).toNat / 2 ^ 32)
def k256 : Kind 32 := { big0 := fun x => tri x 2 13 22, big1 := fun x => tri x 6 11 25, low0 := fun x => sig x 7 18 3, low1 := fun x => sig x 17 19 10, num := K32, rounds := 64, first := S8.of I32, bytes := 4 }
def k512 : Kind 64 := { big0 := fun x => tri x 28 34 39, big1 := fun x => tri x 14 18 41, low0 := fun x => sig x 1 8 7, low1 := fun x => sig x 19 61 6, num := K64, rounds := 80, first := S8.of I64, bytes := 8 }

theorem half_lt (x : BitVec 64) : x.toNat / 2 ^ 32 < 4294967296 := by have := u64_lt x; omega
theorem K32_val (i : Nat) : ((K32 i).toNat : Int) = ((K64 i).toNat : Int) / 2 ^ 32 := by
  unfold K32; rw [ofNat32 _ (half_lt _)]; simp
theorem I32_val (i : Nat) : ((I32 i).toNat : Int) = ((I64 i).toNat : Int) / 2 ^ 32 := by
  unfold I32; rw [ofNat32 _ (half_lt _)]; simp
theorem zero80 : (Try.prog.info? 49).map (fun i => i.zero) = some (some (.agg (arrOf 80 fun _ => .int .u64 0))) := by kernel_rfl
theorem arr80 : IsArr Try.prog 49 80 := ⟨by kernel_rfl, by kernel_rfl⟩

set_option maxHeartbeats 400000 in
theorem roots_any (w : World) : Calls Try.prog 40 #[] w fun e w' => e = .returned (.agg (arrOf 80 (w64 K64))) ∧ Below w.heap.size w w' := by
  go_enter Try.func40, Try.ntmps40
  have hres := rowIs_arr w 80 (fun _ => .int .u64 0) 49
  go_wp2_with (first
    | refine wpList_alloc_arr rfl 49 rfl (arrOf 80 fun _ => .int .u64 0) zero80 ?_
    | refine wpList_build_arr rfl 49 _ rfl (arrOf 80 (w64 K64)) (by kernel_rfl) ?_
    | (refine wpList_store_arr rfl 49 (.tmp 0) (.tmp 1) rfl 80 arr80 hres rfl rfl (by omega) (fun _ _ => rfl) ?_; intro w2 hr2 hg2 hs2))
  refine ret_cell_arr rfl arr80 hr2 rfl (by omega) rfl ⟨?_, ((Below.refl _ _).alloc (Nat.le_refl _) _).grown hg2 (by simp) (by intro k hk; cases hk; omega)⟩
  refine congrArg (fun c => Ending.returned (Value.agg c)) (arrOf_congr fun i hi => ?_)
  unfold putN
  rw [if_pos (by omega)]
  simp only [Nat.zero_add, Nat.sub_zero]

set_option maxHeartbeats 400000 in
theorem refRounds_any (w : World) : Calls Try.prog 27 #[] w fun e w' => e = .returned (.agg (arrOf 80 (w64 K64))) ∧ Below w.heap.size w w' := by
  go_enter Try.func27, Try.ntmps27
  have hres := rowIs_arr w 80 (fun _ => .int .u64 0) 49
  go_wp2_with (first
    | refine wpList_alloc_arr rfl 49 rfl (arrOf 80 fun _ => .int .u64 0) zero80 ?_
    | refine wpList_build_arr rfl 49 _ rfl (arrOf 80 (w64 K64)) (by kernel_rfl) ?_
    | (refine wpList_store_arr rfl 49 (.tmp 0) (.tmp 1) rfl 80 arr80 hres rfl rfl (by omega) (fun _ _ => rfl) ?_; intro w2 hr2 hg2 hs2))
  refine ret_cell_arr rfl arr80 hr2 rfl (by omega) rfl ⟨?_, ((Below.refl _ _).alloc (Nat.le_refl _) _).grown hg2 (by simp) (by intro k hk; cases hk; omega)⟩
  refine congrArg (fun c => Ending.returned (Value.agg c)) (arrOf_congr fun i hi => ?_)
  unfold putN
  rw [if_pos (by omega)]
  simp only [Nat.zero_add, Nat.sub_zero]

set_option maxHeartbeats 400000 in
theorem start512_any (w : World) : Calls Try.prog 39 #[] w fun e w' => e = .returned (.agg (arrOf 8 (w64 I64))) ∧ Below w.heap.size w w' := by
  go_enter Try.func39, Try.ntmps39
  have hres := rowIs_arr w 8 (fun _ => .int .u64 0) 51
  go_wp2_with (first
    | refine wpList_alloc_arr rfl 51 rfl (arrOf 8 fun _ => .int .u64 0) zero8_64 ?_
    | refine wpList_build_arr rfl 51 _ rfl (arrOf 8 (w64 I64)) (by kernel_rfl) ?_
    | (refine wpList_store_arr rfl 51 (.tmp 0) (.tmp 1) rfl 8 arr8_64 hres rfl rfl (by omega) (fun _ _ => rfl) ?_; intro w2 hr2 hg2 hs2))
  refine ret_cell_arr rfl arr8_64 hr2 rfl (by omega) rfl ⟨?_, ((Below.refl _ _).alloc (Nat.le_refl _) _).grown hg2 (by simp) (by intro k hk; cases hk; omega)⟩
  refine congrArg (fun c => Ending.returned (Value.agg c)) (arrOf_congr fun i hi => ?_)
  unfold putN
  rw [if_pos (by omega)]
  simp only [Nat.zero_add, Nat.sub_zero]

set_option maxHeartbeats 400000 in
theorem refStart_any (w : World) : Calls Try.prog 28 #[] w fun e w' => e = .returned (.agg (arrOf 8 (w64 I64))) ∧ Below w.heap.size w w' := by
  go_enter Try.func28, Try.ntmps28
  have hres := rowIs_arr w 8 (fun _ => .int .u64 0) 51
  go_wp2_with (first
    | refine wpList_alloc_arr rfl 51 rfl (arrOf 8 fun _ => .int .u64 0) zero8_64 ?_
    | refine wpList_build_arr rfl 51 _ rfl (arrOf 8 (w64 I64)) (by kernel_rfl) ?_
    | (refine wpList_store_arr rfl 51 (.tmp 0) (.tmp 1) rfl 8 arr8_64 hres rfl rfl (by omega) (fun _ _ => rfl) ?_; intro w2 hr2 hg2 hs2))
  refine ret_cell_arr rfl arr8_64 hr2 rfl (by omega) rfl ⟨?_, ((Below.refl _ _).alloc (Nat.le_refl _) _).grown hg2 (by simp) (by intro k hk; cases hk; omega)⟩
  refine congrArg (fun c => Ending.returned (Value.agg c)) (arrOf_congr fun i hi => ?_)
  unfold putN
  rw [if_pos (by omega)]
  simp only [Nat.zero_add, Nat.sub_zero]

set_option maxHeartbeats 800000 in
theorem start256_any (w : World) : Calls Try.prog 32 #[] w fun e w' => e = .returned (.agg (arrOf 8 (w32 I32))) ∧ Below w.heap.size w w' := by
  go_enter Try.func32, Try.ntmps32
  have hA := (rowIs_arr w 8 (fun _ => .int .u32 0) 54).alloc (.cells (arrOf 8 fun _ => .int .u32 0) 54)
  have hB := rowIs_arr (w.alloc (.cells (arrOf 8 fun _ => .int .u32 0) 54)) 8 (fun _ => .int .u32 0) 54
  have hb : Below w.heap.size w ((w.alloc (.cells (arrOf 8 fun _ => .int .u32 0) 54)).alloc (.cells (arrOf 8 fun _ => .int .u32 0) 54)) :=
    ((Below.refl _ _).alloc (Nat.le_refl _) _).alloc (by simp only [World.size_alloc]; omega) _
  simp only [World.size_alloc] at hA hB
  go_wp2_with (first
    | refine wpList_alloc_arr rfl 54 rfl (arrOf 8 fun _ => .int .u32 0) zero8_32 ?_
    | (go_at_call 39; refine (start512_any _).mono ?_; rintro e w1 ⟨rfl, hb1⟩))
  have hA1 := hA.of_block (hb1.block _ hA.lt)
  have hB1 := hB.of_block (hb1.block _ hB.lt)
  have hb2 := hb.trans (hb1.mono (by simp only [World.size_alloc]; omega))
  clear hA hB hb hb1
  go_wp2
  go_loopw [5] (fun i wr => ∃ j : Nat, j ≤ 8 ∧ i = .int .i64 j ∧ wr.rowIs (w.heap.size + 1) 54 8 (fun i => .int .u32 (if i < j then ((I32 i).toNat : Int) else 0)) ∧
    wr.rowIs w.heap.size 54 8 (fun _ => .int .u32 0) ∧ Below w.heap.size w wr) (fun i _ => 8 - (intOf i).toNat)
  case atStart => exact ⟨0, Nat.zero_le _, rfl, hB1.congr fun i _ => rfl, hA1, hb2⟩
  case round =>
    obtain ⟨j, hj, rfl, hrow, hres, hbel⟩ := hrel
    clear hA1 hB1 hb2
    by_cases hlt : j < 8
    · have hcell := hrow.cell hlt
      have hfr := hrow.frozen j
      have hw : w64 I64 j = .int .u64 ((I64 j).toNat : Int) := rfl
      have hs : IntKind.u64.signed = false := rfl
      go_wp2_with (refine wpList_index_arr rfl 51 48 (.tmp 4) (.tmp 5) rfl 8 Try.underlying51 _ Try.underlying48 rfl (by kernel_rfl) rfl rfl hlt ?_)
      go_roundw
      case rel =>
        refine ⟨j + 1, by omega, by go_num, (hrow.set j _).congr fun i hi => ?_, hres.setOther (by show w.heap.size ≠ w.heap.size + 1; omega) _, hbel.setCell (by show w.heap.size ≤ w.heap.size + 1; omega) _⟩
        show (if i = j then _ else _) = _
        by_cases e : i = j
        · subst e
          rw [if_pos rfl, if_pos (by omega), I32_val]
          rfl
        · rw [if_neg e]
          by_cases h2 : i < j
          · rw [if_pos h2, if_pos (by omega)]
          · rw [if_neg h2, if_neg (by omega)]
      case measure => simp [intOf]; omega
    · obtain rfl : j = 8 := by omega
      have hrow8 : wr.rowIs (w.heap.size + 1) 54 8 (w32 I32) := hrow.congr fun i hi => by rw [if_pos hi]; rfl
      go_wp2_with (first
        | refine wpList_load_arr rfl 54 (.tmp 1) rfl 8 arr8_32 hrow8 rfl (by omega) ?_
        | (refine wpList_store_arr rfl 54 (.tmp 0) (.tmp 15) rfl 8 arr8_32 hres rfl rfl (by omega) (fun _ _ => rfl) ?_; intro w2 hr2 hg2 hs2))
      refine ret_cell_arr rfl arr8_32 hr2 rfl (by omega) rfl ⟨?_, hbel.grown hg2 hbel.size (by intro k hk; cases hk; omega)⟩
      refine congrArg (fun c => Ending.returned (Value.agg c)) (arrOf_congr fun i hi => ?_)
      unfold putN
      rw [if_pos (by omega)]
      simp only [Nat.zero_add, Nat.sub_zero]
end Go.Proofs.Ytladojcbbhphfaa
