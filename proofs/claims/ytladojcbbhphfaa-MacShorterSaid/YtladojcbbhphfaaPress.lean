/- One more block: sha2's press256, press512. -/
import Derived.Test.YtladojcbbhphfaaSpread
namespace Go.Proofs.Ytladojcbbhphfaa
open Go.RowKit Go.Deep
theorem K32_val' (i : Nat) : ((K64 i).toNat : Int) / 4294967296 = ((K32 i).toNat : Int) := (K32_val i).symm
theorem press_a32 (W h t c : BitVec 32) (j : Nat) (g m : BitVec 32) : ((((W.toNat : Int) + ((h.toNat : Int) + t.toNat + c.toNat + ((K64 j).toNat : Int) / 4294967296)) + g.toNat) % 4294967296 + m.toNat) % 4294967296 = ((W + (h + t + c + K32 j) + g + m).toNat : Int) := by
  rw [K32_val']; simp only [BitVec.toNat_add]; omega
theorem press_e32 (d W h t c : BitVec 32) (j : Nat) : ((d.toNat : Int) + ((W.toNat : Int) + ((h.toNat : Int) + t.toNat + c.toNat + ((K64 j).toNat : Int) / 4294967296)) % 4294967296) % 4294967296 = ((d + (W + (h + t + c + K32 j))).toNat : Int) := by
  rw [K32_val']; simp only [BitVec.toNat_add]; omega
theorem press_a64 (W h t c : BitVec 64) (j : Nat) (g m : BitVec 64) : IntKind.u64.wrap (IntKind.u64.wrap (IntKind.u64.wrap ((W.toNat : Int) + IntKind.u64.wrap (IntKind.u64.wrap (IntKind.u64.wrap ((h.toNat : Int) + t.toNat) + c.toNat) + (K64 j).toNat)) + g.toNat) + m.toNat) = ((W + (h + t + c + K64 j) + g + m).toNat : Int) := by
  simp only [wadd64]
theorem press_e64 (d W h t c : BitVec 64) (j : Nat) : IntKind.u64.wrap ((d.toNat : Int) + IntKind.u64.wrap ((W.toNat : Int) + IntKind.u64.wrap (IntKind.u64.wrap (IntKind.u64.wrap ((h.toNat : Int) + t.toNat) + c.toNat) + (K64 j).toNat))) = ((d + (W + (h + t + c + K64 j))).toNat : Int) := by
  simp only [wadd64]

set_option maxHeartbeats 4000000 in
theorem press256_any (s : S8 32) (blk : List UInt8) (w : World) (hl : blk.length = 64) :
    Calls Try.prog 35 #[.agg (arrOf 8 (w32 s.at)), .agg (arrOf 64 (u8f blk))] w fun e w' => e = .returned (.agg (arrOf 8 (w32 (k256.press s blk).at))) ∧ Below w.heap.size w w' := by
  go_enter Try.func35, Try.ntmps35
  have hA := ((rowIs_arr w 8 (w32 s.at) 54).alloc (.cells (arrOf 64 (u8f blk)) 40)).alloc (.cells (arrOf 8 fun _ => .int .u32 0) 54)
  have hB := (rowIs_arr (w.alloc (.cells (arrOf 8 (w32 s.at)) 54)) 64 (u8f blk) 40).alloc (.cells (arrOf 8 fun _ => .int .u32 0) 54)
  have hC := rowIs_arr ((w.alloc (.cells (arrOf 8 (w32 s.at)) 54)).alloc (.cells (arrOf 64 (u8f blk)) 40)) 8 (fun _ => .int .u32 0) 54
  have hb : Below w.heap.size w (((w.alloc (.cells (arrOf 8 (w32 s.at)) 54)).alloc (.cells (arrOf 64 (u8f blk)) 40)).alloc (.cells (arrOf 8 fun _ => .int .u32 0) 54)) :=
    (((Below.refl _ _).alloc (Nat.le_refl _) _).alloc (by simp only [World.size_alloc]; omega) _).alloc (by simp only [World.size_alloc]; omega) _
  simp only [World.size_alloc] at hA hB hC
  have hw : ∀ i, w32 s.at i = .int .u32 ((s.at i).toNat : Int) := fun _ => rfl
  go_wp2_with (first
    | refine wpList_alloc_arr rfl 54 rfl (arrOf 8 fun _ => .int .u32 0) zero8_32 ?_
    | (go_at_call 40; refine (roots_any _).mono ?_; rintro e w1 ⟨rfl, hb1⟩
       replace hA := hA.of_block (hb1.block _ hA.lt)
       replace hB := hB.of_block (hb1.block _ hB.lt)
       replace hC := hC.of_block (hb1.block _ hC.lt)
       replace hb := hb.trans (hb1.mono hb.size)
       replace hb := hb.alloc hb.size (.cells (arrOf 80 fun _ => .int .u64 0) 49)
       have hR := rowIs_arr w1 80 (fun _ => .int .u64 0) 49
       have hsz := hb1.size
       simp only [World.size_alloc] at hsz
       clear hb1)
    | refine wpList_alloc_arr rfl 49 rfl (arrOf 80 fun _ => .int .u64 0) zero80 ?_
    | (refine wpList_store_arr rfl 49 (.tmp 5) (.tmp 18) rfl 80 arr80 hR rfl rfl (by omega) (fun _ _ => rfl) ?_; intro w2 hr2 hg2 hs2
       replace hA := (hA.alloc (.cells (arrOf 80 fun _ => .int .u64 0) 49)).of_block (hg2.block _ (by simp only [World.size_alloc]; omega) (by intro h; have := Option.some.inj h; omega))
       replace hB := (hB.alloc (.cells (arrOf 80 fun _ => .int .u64 0) 49)).of_block (hg2.block _ (by simp only [World.size_alloc]; omega) (by intro h; have := Option.some.inj h; omega))
       replace hC := (hC.alloc (.cells (arrOf 80 fun _ => .int .u64 0) 49)).of_block (hg2.block _ (by simp only [World.size_alloc]; omega) (by intro h; have := Option.some.inj h; omega))
       replace hb := hb.grown hg2 hb.size (by intro k hk; cases hk; omega)
       replace hR := hr2.congr (g := w64 K64) (fun i hi => by unfold putN; rw [if_pos (by omega)]; rfl)
       clear hr2 hg2 hs2)
    | refine wpList_load_arr rfl 54 (.tmp 2) rfl 8 arr8_32 hA rfl (by omega) ?_
    | (go_at_call 41; refine (all32_any s.at _).mono ?_; rintro e w3 ⟨rfl, hb3⟩
       replace hA := hA.of_block (hb3.block _ hA.lt)
       replace hB := hB.of_block (hb3.block _ hB.lt)
       replace hC := hC.of_block (hb3.block _ hC.lt)
       replace hR := hR.of_block (hb3.block _ hR.lt)
       replace hb := hb.trans (hb3.mono hb.size)
       clear hb3)
    | refine wpList_load_arr rfl 40 (.tmp 3) rfl 64 arrB_32 hB rfl (by omega) ?_
    | (go_at_call 42; refine (spread256_any blk _ hl).mono ?_; rintro e w4 ⟨rfl, hb4⟩
       replace hA := hA.of_block (hb4.block _ hA.lt)
       replace hC := hC.of_block (hb4.block _ hC.lt)
       replace hR := hR.of_block (hb4.block _ hR.lt)
       replace hb := hb.trans (hb4.mono hb.size)
       clear hb4 hB))
  clear hw
  generalize w1.heap.size = nb at *
  obtain ⟨W, hW⟩ : ∃ W, W = k256.sched (k256.word blk) := ⟨_, rfl⟩
  rw [← hW]
  go_loopw [6, 7, 8, 9, 10, 11, 12, 13, 32] (fun a b c d e f g h i wr => ∃ (j : Nat) (s' : S8 32), j ≤ 64 ∧ Hid (s' = k256.rnd W s j) ∧ i = .int .i64 j ∧
    a = .int .u32 (s'.a.toNat : Int) ∧ b = .int .u32 (s'.b.toNat : Int) ∧ c = .int .u32 (s'.c.toNat : Int) ∧ d = .int .u32 (s'.d.toNat : Int) ∧
    e = .int .u32 (s'.e.toNat : Int) ∧ f = .int .u32 (s'.f.toNat : Int) ∧ g = .int .u32 (s'.g.toNat : Int) ∧ h = .int .u32 (s'.h.toNat : Int) ∧
    wr.rowIs w.heap.size 54 8 (w32 s.at) ∧ wr.rowIs (w.heap.size + 1 + 1) 54 8 (fun _ => .int .u32 0) ∧ wr.rowIs nb 49 80 (w64 K64) ∧ Below w.heap.size w wr) (fun _ _ _ _ _ _ _ _ i _ => 64 - (intOf i).toNat)
  case atStart => exact ⟨0, s, Nat.zero_le _, rfl, rfl, rfl, rfl, rfl, rfl, rfl, rfl, rfl, rfl, hA, hC, hR, hb⟩
  case round =>
    clear hA hC hR hb
    obtain ⟨j, s', hj, HS, rfl, rfl, rfl, rfl, rfl, rfl, rfl, rfl, rfl, hA, hC, hR, hb⟩ := hrel
    by_cases hlt : j < 64
    · have hcell : wr.cell? ⟨nb, j, none⟩ = some (.int .u64 ((K64 j).toNat : Int)) := hR.cell (by omega)
      have hw : w32 W j = .int .u32 ((W j).toNat : Int) := rfl
      have hs : IntKind.u64.signed = false := rfl
      have hj80 : (j : Int) < 80 := by omega
      clear hW
      go_wp2_with (first
        | refine wpList_index_arr rfl 57 53 (.tmp 31) (.tmp 32) rfl 64 Try.underlying57 _ Try.underlying53 rfl (by kernel_rfl) rfl rfl hlt ?_
        | (go_at_call 43; refine (turn32_lit _ _ _ _ _ (by omega) (by omega) (by omega) (by omega) (by omega) (by omega)).mono ?_; rintro e w1 ⟨rfl, rfl⟩))
      go_quiet ((go_at_call 44; exact Calls.quiet_of_same (choose32_any _ _ _ _)))
      go_wp2_with (go_at_call 45; refine (most32_any _ _ _ _).mono ?_; rintro e w1 ⟨rfl, rfl⟩)
      go_roundw
      case rel =>
        refine ⟨j + 1, k256.step (k256.num j) (W j) s', by omega, by rw [HS.out]; rfl, by go_num, ?_, rfl, rfl, rfl, ?_, rfl, rfl, rfl, hA, hC, hR, below_drewN hb _⟩
        · exact congrArg (Value.int .u32) (press_a32 (W j) s'.h (k256.big1 s'.e) (chz s'.e s'.f s'.g) j (k256.big0 s'.a) (maj s'.a s'.b s'.c))
        · exact congrArg (Value.int .u32) (press_e32 s'.d (W j) s'.h (k256.big1 s'.e) (chz s'.e s'.f s'.g) j)
      case measure => simp [intOf]; omega
    · obtain rfl : j = 64 := by omega
      go_wp2_with (first
        | refine wpList_load_arr rfl 54 (.tmp 2) rfl 8 arr8_32 hA rfl (by omega) ?_
        | refine wpList_build_arr rfl 54 _ rfl (arrOf 8 (w32 s'.at)) (by kernel_rfl) ?_
        | (go_at_call 46; refine (plus32_any s.at s'.at _).mono ?_; rintro e w5 ⟨rfl, hb5⟩
           replace hC := hC.of_block (hb5.block _ hC.lt)
           replace hb := hb.trans (hb5.mono hb.size)
           clear hb5)
        | (refine wpList_store_arr rfl 54 (.tmp 4) (.tmp 84) rfl 8 arr8_32 hC rfl rfl (by omega) (fun _ _ => rfl) ?_; intro w6 hr6 hg6 hs6))
      refine ret_cell_arr rfl arr8_32 hr6 rfl (by omega) rfl ⟨?_, hb.grown hg6 hb.size (by intro k hk; cases hk; omega)⟩
      refine congrArg (fun c => Ending.returned (Value.agg c)) (arrOf_congr fun i hi => ?_)
      unfold putN
      rw [if_pos (by omega)]
      have hp : k256.press s blk = S8.add s s' := by rw [HS.out, hW]; rfl
      rw [hp]
      simp only [Nat.zero_add, Nat.sub_zero]
      show Value.int .u32 ((s.at i + s'.at i).toNat : Int) = Value.int .u32 (((S8.add s s').at i).toNat : Int)
      rw [S8.at_add]

end Go.Proofs.Ytladojcbbhphfaa
