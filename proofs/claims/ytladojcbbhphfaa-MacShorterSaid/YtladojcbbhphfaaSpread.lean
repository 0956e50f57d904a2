/- A block's words: sha2's spread256, spread512. -/
import Derived.Test.YtladojcbbhphfaaTab
namespace Go.Proofs.Ytladojcbbhphfaa
open Go.RowKit Go.Deep

def u8f (blk : List UInt8) : Nat → Value := fun i => .int .u8 ((blk.getD i 0).toNat : Int)
/-- A part of a row, read as bytes. -/
theorem Bs.of_part {w : World} {b m off n cap : Nat} {t : TypeId} {f : Nat → Value} (h : w.rowIs b t m f) (l : List UInt8) (hn : l.length = n) (hm : off + n ≤ m) (hc : n ≤ cap) (hcm : cap ≤ maxLen)
    (hf : ∀ i (hi : i < l.length), f (off + i) = .int .u8 ((l[i]).toNat : Int)) : Bs w (.slice (some ⟨b, off, none⟩) n cap) l := by
  subst hn
  refine ⟨_, cap, rfl, hc, hcm, (fun h => by cases h), fun x hx i hi => ?_⟩
  cases hx
  refine ⟨h.lt, ?_⟩
  rw [add_eq, h.cell (by omega), hf i hi]
theorem numB_w32 (l : List UInt8) : (numB l 4 : Int) = ((BitVec.ofNat 32 (numB l 4)).toNat : Int) := (ofNat32 _ (numB_lt l 4)).symm
theorem numB_w64 (l : List UInt8) : (numB l 8 : Int) = ((BitVec.ofNat 64 (numB l 8)).toNat : Int) := (ofNat64 _ (numB_lt l 8)).symm
theorem add4_32 (a b c d : BitVec 32) : ((a.toNat : Int) + b.toNat + c.toNat + d.toNat) % 4294967296 = ((a + b + c + d).toNat : Int) := by
  simp only [BitVec.toNat_add]; omega
theorem wadd64 (a b : BitVec 64) : IntKind.u64.wrap ((a.toNat : Int) + b.toNat) = ((a + b).toNat : Int) := add64 a b
theorem add4_64 (a b c d : BitVec 64) : IntKind.u64.wrap (IntKind.u64.wrap (IntKind.u64.wrap ((a.toNat : Int) + b.toNat) + c.toNat) + d.toNat) = ((a + b + c + d).toNat : Int) := by
  rw [wadd64, wadd64, wadd64]
theorem sig_val32 (x : BitVec 32) (i j k : Nat) : bits .xor .u32 (bits .xor .u32 (rotr x i).toNat (rotr x j).toNat) ((x.toNat : Int) / 2 ^ k) = ((sig x i j k).toNat : Int) := by
  rw [shr32, xor32, xor32]; rfl
theorem zeroR_32 : (Try.prog.info? 57).map (fun i => i.zero) = some (some (.agg (arrOf 64 fun _ => .int .u32 0))) := by kernel_rfl
theorem arrR_32 : IsArr Try.prog 57 64 := ⟨by kernel_rfl, by kernel_rfl⟩
theorem arrB_32 : IsArr Try.prog 40 64 := ⟨by kernel_rfl, by kernel_rfl⟩

set_option maxHeartbeats 1600000 in
theorem spread256_any (blk : List UInt8) (w : World) (hl : blk.length = 64) :
    Calls Try.prog 42 #[.agg (arrOf 64 (u8f blk))] w fun e w' => e = .returned (.agg (arrOf 64 (w32 (k256.sched (k256.word blk))))) ∧ Below w.heap.size w w' := by
  go_enter Try.func42, Try.ntmps42
  have hX := ((rowIs_arr w 64 (u8f blk) 40).alloc (.cells (arrOf 64 fun _ => .int .u32 0) 57)).alloc (.cells (arrOf 64 fun _ => .int .u32 0) 57)
  have hA := (rowIs_arr (w.alloc (.cells (arrOf 64 (u8f blk)) 40)) 64 (fun _ => .int .u32 0) 57).alloc (.cells (arrOf 64 fun _ => .int .u32 0) 57)
  have hB := rowIs_arr ((w.alloc (.cells (arrOf 64 (u8f blk)) 40)).alloc (.cells (arrOf 64 fun _ => .int .u32 0) 57)) 64 (fun _ => .int .u32 0) 57
  have hb : Below w.heap.size w (((w.alloc (.cells (arrOf 64 (u8f blk)) 40)).alloc (.cells (arrOf 64 fun _ => .int .u32 0) 57)).alloc (.cells (arrOf 64 fun _ => .int .u32 0) 57)) :=
    (((Below.refl _ _).alloc (Nat.le_refl _) _).alloc (by simp only [World.size_alloc]; omega) _).alloc (by simp only [World.size_alloc]; omega) _
  simp only [World.size_alloc] at hX hA hB
  go_wp2_with (first
    | refine wpList_alloc_arr rfl 57 rfl (arrOf 64 fun _ => .int .u32 0) zeroR_32 ?_)
  go_loopw [10] (fun i wr => ∃ j : Nat, j ≤ 16 ∧ i = .int .i64 j ∧ wr.rowIs w.heap.size 40 64 (u8f blk) ∧
    wr.rowIs (w.heap.size + 1 + 1) 57 64 (fun i => .int .u32 (if i < j then ((k256.sched (k256.word blk) i).toNat : Int) else 0)) ∧
    wr.rowIs (w.heap.size + 1) 57 64 (fun _ => .int .u32 0) ∧ Below w.heap.size w wr) (fun i _ => 16 - (intOf i).toNat)
  case atStart => exact ⟨0, Nat.zero_le _, rfl, hX, hB.congr fun i _ => rfl, hA, hb⟩
  case round =>
    obtain ⟨j, hj, rfl, hblk, hrow, hres, hbel⟩ := hrel
    clear hX hA hB hb
    by_cases hlt : j < 16
    · have hcell := hrow.cell (i := j) (by omega)
      have hfr := hrow.frozen j
      have HB : Hid (Bs wr (.slice (some ⟨w.heap.size, 4 * j, none⟩) (64 - 4 * j) (64 - 4 * j)) (blk.drop (4 * j))) := Lib.hid (Bs.of_part hblk _ (by rw [List.length_drop, hl]) (by omega) (Nat.le_refl _) (by unfold maxLen; omega) fun i hi => by
        rw [List.length_drop] at hi
        unfold u8f
        rw [List.getElem_drop, List.getD_eq_getElem?_getD, List.getElem?_eq_getElem (by omega)]; rfl)
      go_wp2_with (first
        | refine wpList_sliceFrom_arr rfl 40 5 (.tmp 1) (.tmp 15) rfl Try.underlying40 (by kernel_rfl) (j := 4 * j) rfl rfl (by omega) (by omega) ?_
        | (go_at_call 49; refine (get32_any _ _ _ HB.out).mono ?_; rintro e w1 ⟨rfl, rfl⟩))
      go_roundw
      case rel =>
        refine ⟨j + 1, by omega, by go_num, hblk.setOther (by show w.heap.size ≠ w.heap.size + 1 + 1; omega) _, (hrow.set j _).congr fun i hi => ?_, hres.setOther (by show w.heap.size + 1 ≠ w.heap.size + 1 + 1; omega) _, hbel.setCell (by show w.heap.size ≤ w.heap.size + 1 + 1; omega) _⟩
        show (if i = j then _ else _) = _
        by_cases e : i = j
        · subst e
          rw [if_pos rfl, if_pos (by omega), Kind.sched_low _ _ _ hlt]
          exact congrArg (Value.int .u32) (numB_w32 _)
        · rw [if_neg e]
          by_cases h2 : i < j
          · rw [if_pos h2, if_pos (by omega)]
          · rw [if_neg h2, if_neg (by omega)]
      case measure => simp [intOf]; omega
    · obtain rfl : j = 16 := by omega
      clear hblk hlt hj
      go_wp2
      go_loopw [5] (fun i wr => ∃ j : Nat, 16 ≤ j ∧ j ≤ 64 ∧ i = .int .i64 j ∧
        wr.rowIs (w.heap.size + 1 + 1) 57 64 (fun i => .int .u32 (if i < j then ((k256.sched (k256.word blk) i).toNat : Int) else 0)) ∧
        wr.rowIs (w.heap.size + 1) 57 64 (fun _ => .int .u32 0) ∧ Below w.heap.size w wr) (fun i _ => 64 - (intOf i).toNat)
      case atStart => exact ⟨16, by omega, by omega, rfl, hrow, hres, hbel⟩
      case round =>
        clear hrow hres hbel
        obtain ⟨j, hj0, hj, rfl, hrow, hres, hbel⟩ := hrel
        by_cases hlt : j < 64
        · have c15 := hrow.cell (i := j - 15) (by omega)
          have c2 := hrow.cell (i := j - 2) (by omega)
          have c7 := hrow.cell (i := j - 7) (by omega)
          have c16 := hrow.cell (i := j - 16) (by omega)
          have c0 := hrow.cell (i := j) (by omega)
          rw [if_pos (by omega)] at c15 c2 c7 c16
          rw [if_neg (by omega)] at c0
          have hfr := hrow.frozen j
          have b1 : (15 : Int) ≤ (j : Int) := by omega
          have b2 : (j : Int) < 64 := by omega
          have hs : IntKind.u32.signed = false := rfl
          go_wp2
          go_quiet (fail)
          go_wp2_with (go_at_call 50; refine (rotl32_lit _ _ _ (by omega) (by omega)).mono ?_; rintro e w1 ⟨rfl, rfl⟩)
          go_region
          go_wp2
          go_roundw
          case rel =>
            (repeat apply Exists.intro)
            refine ⟨?_, rfl⟩
            refine ⟨j + 1, by omega, by omega, by go_num, (hrow.set j _).congr fun i hi => ?_, hres.setOther (by show w.heap.size + 1 ≠ w.heap.size + 1 + 1; omega) _, below_drewN (hbel.setCell (by show w.heap.size ≤ w.heap.size + 1 + 1; omega) _) _⟩
            show (if i = j then _ else _) = _
            by_cases e : i = j
            · subst e
              rw [if_pos rfl, if_pos (by omega), Kind.sched_high _ _ _ hj0]
              refine congrArg (Value.int .u32) ?_
              have e1 : bits .xor .u32 (bits .xor .u32 (rotr (k256.sched (k256.word blk) (i - 2)) 17).toNat (rotr (k256.sched (k256.word blk) (i - 2)) 19).toNat) (((k256.sched (k256.word blk) (i - 2)).toNat : Int) / 1024) = ((k256.low1 (k256.sched (k256.word blk) (i - 2))).toNat : Int) := sig_val32 _ 17 19 10
              have e2 : bits .xor .u32 (bits .xor .u32 (rotr (k256.sched (k256.word blk) (i - 15)) 7).toNat (rotr (k256.sched (k256.word blk) (i - 15)) 18).toNat) (((k256.sched (k256.word blk) (i - 15)).toNat : Int) / 8) = ((k256.low0 (k256.sched (k256.word blk) (i - 15))).toNat : Int) := sig_val32 _ 7 18 3
              rw [e1, e2]
              exact add4_32 _ _ _ _
            · rw [if_neg e]
              by_cases h2 : i < j
              · rw [if_pos h2, if_pos (by omega)]
              · rw [if_neg h2, if_neg (by omega)]
          case measure => simp [intOf]; omega
        · obtain rfl : j = 64 := by omega
          have hrowR : wr.rowIs (w.heap.size + 1 + 1) 57 64 (w32 (k256.sched (k256.word blk))) := hrow.congr fun i hi => by rw [if_pos hi]; rfl
          go_wp2_with (first
            | refine wpList_load_arr rfl 57 (.tmp 3) rfl 64 arrR_32 hrowR rfl (by omega) ?_
            | (refine wpList_store_arr rfl 57 (.tmp 2) (.tmp 63) rfl 64 arrR_32 hres rfl rfl (by omega) (fun _ _ => rfl) ?_; intro w2 hr2 hg2 hs2))
          refine ret_cell_arr rfl arrR_32 hr2 rfl (by omega) rfl ⟨?_, hbel.grown hg2 hbel.size (by intro k hk; cases hk; omega)⟩
          refine congrArg (fun c => Ending.returned (Value.agg c)) (arrOf_congr fun i hi => ?_)
          unfold putN
          rw [if_pos (by omega)]
          simp only [Nat.zero_add, Nat.sub_zero]
theorem sig_val64 (x : BitVec 64) (i j k : Nat) : bits .xor .u64 (bits .xor .u64 (rotr x i).toNat (rotr x j).toNat) ((x.toNat : Int) / 2 ^ k) = ((sig x i j k).toNat : Int) := by
  rw [shr32, xor64, xor64]; rfl
theorem zeroR_64 : (Try.prog.info? 49).map (fun i => i.zero) = some (some (.agg (arrOf 80 fun _ => .int .u64 0))) := by kernel_rfl
theorem arrR_64 : IsArr Try.prog 49 80 := ⟨by kernel_rfl, by kernel_rfl⟩
end Go.Proofs.Ytladojcbbhphfaa
