/- Sum512 of rows. -/
import Derived.Test.YtgfgnjlbghakfaaSumAll
namespace Go.Proofs.Ytgfgnjlbghakfaa
open Go.RowKit Go.Deep

theorem zero128 : (Try.prog.info? 55).map (fun i => i.zero) = some (some (.agg (arrOf 128 (u8f (lst 128 fun _ => 0))))) := by kernel_rfl
theorem M512.drew {w : World} {x y z : Nat} {s : S8 64} {blk : Nat → UInt8} (h : M512 w x y s blk z) : M512 w.drew x y s blk z := ⟨h.ne, h.state.drew, h.row.drew⟩
theorem M512.below {w w' : World} {x y z B : Nat} {s : S8 64} {blk : Nat → UInt8} (h : M512 w x y s blk z) (hb : Below B w w') (hB : w.heap.size ≤ B) : M512 w' x y s blk z :=
  ⟨h.ne, h.state.of_block (hb.block _ (Nat.lt_of_lt_of_le h.state.lt hB)), h.row.of_block (hb.block _ (Nat.lt_of_lt_of_le h.row.lt hB))⟩
theorem Away.of_slice {x : Addr} {n c b : Nat} (h : x.block ≠ b) : Away (.slice (some x) n c) b := fun x' n' c' he _ => by cases he; exact h

set_option maxHeartbeats 4000000 in
theorem sum512_any (v : Value) (L : List (List UInt8)) (w : World) (hv : Bss w v L) (hlen : L.flatten.length < 2 ^ 59) :
    Calls Try.prog 12 #[v] w fun e w' => ∃ v', e = .returned v' ∧ Bs w' v' (k512.sum L.flatten) ∧ Below w.heap.size w w' := by
  have HV := Lib.hid hv
  obtain ⟨a, cap, rfl, h1, h2, h3, h4⟩ := hv
  clear h3 h4
  unfold maxLen at h2
  have hmf : ∀ (fn : Fn) (first cap : Array Value) (w : World), (Instr.makeFunc fn first cap).run Try.prog w = .ok (.func fn first cap) w := fun _ _ _ _ => rfl
  go_enter Try.func12, Try.ntmps12
  go_wp2_with (first
    | (go_at_call 24; refine (start512_any _).mono ?_; rintro e w1 ⟨rfl, hb1⟩
       have hS0 := rowIs_arr w1 8 (fun _ => .int .u64 0) 48
       have hb := hb1.alloc hb1.size (.cells (arrOf 8 fun _ => .int .u64 0) 48)
       have hsz := hb1.size
       clear hb1)
    | refine wpList_alloc_arr rfl 48 rfl (arrOf 8 fun _ => .int .u64 0) zero8_64 ?_
    | (refine wpList_store_arr rfl 48 (.tmp 3) (.tmp 12) rfl 8 arr8_64 hS0 rfl rfl (by omega) (fun _ _ => rfl) ?_; intro w2 hr2 hg2 hs2
       have hM : M512 (w2.alloc (.cells (arrOf 128 (u8f (lst 128 fun _ => 0))) 55)) w1.heap.size w2.heap.size k512.first (fun _ => 0) 0 :=
         ⟨by rw [hs2, World.size_alloc]; omega, (hr2.congr fun i hi => by
            unfold putN
            rw [if_pos (by omega), Nat.sub_zero]
            show Value.int .u64 ((I64 i).toNat : Int) = Value.int .u64 (((S8.of I64).at i).toNat : Int)
            rw [S8.at_of _ _ hi]).alloc _, rowIs_arr w2 128 _ _⟩
       replace hb := (hb.grown hg2 hb.size (by intro k hk; cases hk; omega))
       replace hb := hb.alloc hb.size (.cells (arrOf 128 (u8f (lst 128 fun _ => 0))) 55)
       have hsz2 : w.heap.size ≤ w2.heap.size := by rw [hs2, World.size_alloc]; omega
       clear hr2 hg2 hs2 hS0)
    | refine wpList_alloc_arr rfl 55 rfl (arrOf 128 (u8f (lst 128 fun _ => 0))) zero128 ?_)
  generalize w1.heap.size = x at *
  generalize w2.heap.size = y at *
  go_loopw [6, 16] (fun size i wr => ∃ (j : Nat) (s : S8 64) (blk : Nat → UInt8) (q : Nat), j ≤ L.length ∧ i = .int .i64 j ∧ size = .int .u64 (q : Int) ∧ Hid ((catTo L j).length = q) ∧ M512 wr x y s blk 0 ∧ Dig k512 (catTo L j) s blk ∧ Below w.heap.size w wr) (fun _ i _ => L.length - (intOf i).toNat)
  case atStart => exact ⟨0, k512.first, fun _ => 0, 0, Nat.zero_le _, rfl, rfl, rfl, hM, (by rw [show catTo L 0 = [] from rfl]; exact ⟨rfl, fun i hi => by simp at hi⟩), hb⟩
  case round =>
    clear hM hb
    obtain ⟨j, s, blk, q, hj, rfl, rfl, HQ, hM, hD, hbel⟩ := hrel
    by_cases hlt : j < L.length
    · have hsum : (catTo L j).length + L[j].length ≤ L.flatten.length := by
        have := catTo_le L (j + 1)
        rw [catTo_succ L j hlt, List.length_append] at this
        exact this
      obtain ⟨b, off, cap', he, _, _, hbl, hc⟩ := HV.out.open_cons (by omega)
      cases he
      obtain ⟨u, hcj, hu⟩ := hc j hlt
      clear hc
      have hcr : wr.cell? ⟨b, off + j, none⟩ = some u := (hbel.cell (by exact hbl)).trans hcj
      have HU := Lib.hid (hu.below hbel (Nat.le_refl _))
      have HA1 : Away u x := hu.away hsz
      have HA2 : Away u y := hu.away hsz2
      clear hu
      have hcut := cut512_any x y s blk 0 (catTo L j) L[j] u wr hM hD HU.out HA1 HA2 (by omega)
      rw [HQ.out] at hcut
      go_wp2_with (first
        | refine wpList_op rfl (.slice 55 (.tmp 4) none none none) 25 (.slice (some ⟨y, 0, none⟩) 128 128) rfl rfl (exec_sliceAll _ _ _ _ _ Try.underlying55 (by kernel_rfl) rfl (by omega)) ?_
        | (go_at_call 27; refine hcut.mono ?_; rintro e w3 ⟨rfl, s3, blk3, hM3, hD3, ht3⟩))
      rw [← catTo_succ L j hlt] at hD3
      have hbel3 : Below w.heap.size w w3 := hbel.trans (ht3.below hsz hsz2 hbel.size)
      have HQ3 : Hid ((catTo L (j + 1)).length = q + L[j].length) := by
        show _ = _
        rw [catTo_succ L j hlt, List.length_append, HQ.out]
      clear hM hD hbel hcr HU HA1 HA2 ht3 hcut
      go_wp2
      go_roundw
      case rel => exact ⟨j + 1, s3, blk3, q + L[j].length, by omega, by go_num, rfl, HQ3, hM3, hD3, hbel3⟩
      case measure => simp [intOf]; omega
    · obtain rfl : j = L.length := by omega
      rw [catTo_all L L.length (Nat.le_refl _)] at hD HQ
      have hq59 : q < 2 ^ 59 := by have := HQ.out; omega
      go_wp2
      refine wp_region_lins [(0, some [5]), (1, some [5]), (2, some [3]), (4, some [5]), (3, none), (5, none)] (fun _ _ => True) (by kernel_rfl) (by kernel_rfl) (by decide) (by kernel_rfl) (fun d _ _ _ _ h => by cases d <;> exact h) (fun _ _ => trivial) ?_
      refine lins_read 26 (Op.slice 55 (Operand.tmp 4) none none none) 25 (.slice (some ⟨y, 0, none⟩) 128 128) rfl rfl rfl rfl rfl (fun w0 hw0 => by exact exec_sliceAll _ _ _ _ _ Try.underlying55 (by kernel_rfl) rfl (by omega)) ?_
      simp only [Act.put, List.setIfInBounds_toArray, List.set_cons_zero, List.set_cons_succ]
      refine lins_read 27 (Op.move (Operand.tmp 6)) 33 _ rfl rfl rfl rfl rfl (fun w0 hw0 => by unfold mkOp; go_simp; all_goals (with_reducible rfl)) ?_
      simp only [Act.put, List.setIfInBounds_toArray, List.set_cons_zero, List.set_cons_succ]
      refine lins_read 28 (Op.move (Operand.tmp 6)) 33 _ rfl rfl rfl rfl rfl (fun w0 hw0 => by unfold mkOp; go_simp; all_goals (with_reducible rfl)) ?_
      simp only [Act.put, List.setIfInBounds_toArray, List.set_cons_zero, List.set_cons_succ]
      refine lins_read 30 (Op.move (Operand.tmp 5)) 1 _ rfl rfl rfl rfl rfl (fun w0 hw0 => by unfold mkOp; go_simp; all_goals (with_reducible rfl)) ?_
      simp only [Act.put, List.setIfInBounds_toArray, List.set_cons_zero, List.set_cons_succ]
      refine lins_fn (some 29) 28 #[Operand.tmp 28, Operand.const (Value.int IntKind.i64 128)] #[33, 3] _ (ending128_any q _ (by omega)) rfl rfl rfl rfl Try.func28 (by kernel_rfl) (by kernel_rfl) (by go_simp) ?_
      rintro e w5 ⟨v5, rfl, hB5, hb5, c5, hv5⟩
      have hM5 := hM.drew.below hb5 (Nat.le_refl _)
      refine ⟨_, rfl, fun _ _ => True, fun _ _ => ⟨trivial, fun _ _ => trivial⟩, ?_⟩
      simp only [Act.put, List.setIfInBounds_toArray, List.set_cons_zero, List.set_cons_succ]
      refine lins_fn (some 31) 27 #[Operand.tmp 26, Operand.tmp 27, Operand.tmp 29, Operand.tmp 30] #[25, 33, 25, 1] _ (cut512_any x y s blk 0 L.flatten _ _ _ hM5 hD hB5 (hv5 ▸ Away.of_slice (by show wr.heap.size ≠ x; have := hM.state.lt; omega)) (hv5 ▸ Away.of_slice (by show wr.heap.size ≠ y; have := hM.row.lt; omega)) (by rw [endOf_length _ _ (by omega)]; have := (endRoom_ge q 128 (by omega)).2; have := HQ.out; omega)) rfl rfl rfl rfl Try.func27 (by kernel_rfl) (by kernel_rfl) (by rw [show L.flatten.length = q from HQ.out]; go_simp) ?_
      rintro e w6 ⟨rfl, s6, blk6, hM6, hD6, ht6⟩
      refine ⟨_, rfl, fun _ _ => True, fun _ _ => ⟨trivial, fun _ _ => trivial⟩, ?_⟩
      simp only [Act.put, List.setIfInBounds_toArray, List.set_cons_zero, List.set_cons_succ]
      refine lins_end ?_
      have hout : k512.out s6 8 = k512.sum L.flatten := Dig.sum (by have := hD6; rw [← HQ.out] at this; exact this)
      have hb6 : Below w.heap.size w w6 := (hbel.drew.trans (hb5.mono hbel.size)).trans (ht6.below hsz hsz2 (Nat.le_trans hbel.size hb5.size))
      have HS := Lib.hid hout
      clear hout hD6 hb5 hB5 hM5 hv5 hD HQ hM hbel ht6
      go_wp2_with (first
        | refine wpList_load_arr rfl 48 (.tmp 3) rfl 8 arr8_64 hM6.state rfl (by omega) ?_)
      go_loopw [9, 33] (fun out i wr => ∃ j : Nat, j ≤ 8 ∧ i = .int .i64 j ∧ Owns wr w.heap.size out (k512.out s6 j) ∧ Below w.heap.size w wr) (fun _ i _ => 8 - (intOf i).toNat)
      case atStart => exact ⟨0, Nat.zero_le _, rfl, Owns.nil _ _, hb6⟩
      case round =>
        clear hb6 hM6
        obtain ⟨j, hj, rfl, hown, hbel⟩ := hrel
        by_cases hlt : j < 8
        · have hw : w64 s6.at j = .int .u64 ((s6.at j).toNat : Int) := rfl
          have hol : (k512.out s6 j).length = 8 * j := out_length k512 s6 8 rfl j
          go_wp2_with (first
            | refine wpList_index_arr rfl 48 33 (.tmp 32) (.tmp 33) rfl 8 Try.underlying48 _ Try.underlying33 rfl (by kernel_rfl) rfl rfl hlt ?_
            | (go_at_call 29; refine (put64_any (s6.at j).toNat _ (s6.at j).isLt).mono ?_; rintro e w5 ⟨v5, rfl, hB5, hb5⟩
               have hown5 : Owns w5 w.heap.size _ (k512.out s6 j) := hown.below hb5
               have hbel5 := hbel.trans (hb5.mono hbel.size)
               clear hb5)
            | (refine wpList_app rfl _ _ rfl w.heap.size _ _ (k512.out s6 j) _ hown5 hB5 rfl rfl (by rw [hol, bigB_length]; omega) hbel5.size ?_; intro v6 w6 hown6 hgrow6))
          have hbel6 : Below w.heap.size w w6 := hbel5.grown hgrow6 hbel5.size (Owns.block hown5)
          clear hown5 hgrow6 hB5
          go_wp2
          go_roundw
          case rel => exact ⟨j + 1, by omega, by go_num, hown6, hbel6⟩
          case measure => simp [intOf]; omega
        · obtain rfl : j = 8 := by omega
          go_wp2
          go_ret
          exact ⟨_, rfl, by rw [← HS.out]; exact hown.bs, hbel⟩
end Go.Proofs.Ytgfgnjlbghakfaa
