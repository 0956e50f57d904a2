/- missivelaw3.Sha3Permutes: the walk. -/
import Derived.Test.YtmfogngfdgpahaaDoorKecG
import Derived.Test.YtmfogngfdgpahaaDoorNumsK
import Derived.Test.YtmfogngfdgpahaaDoorEqArr
namespace Go.Proofs.YtmfogngfdgpahaaDoor
open Go.RowKit Go.Deep

/-- The first j numbers as lanes. -/
def lanesTo (xs : List Int) (j : Nat) (i : Nat) : BitVec 64 := if i < j then BitVec.ofInt 64 (xs.getD i 0) else 0
theorem u64_bv {n : Int} (h : (Lit.int .u64 n).wf = true) : n = ((BitVec.ofInt 64 n).toNat : Int) := by
  have := bd_u64 h
  rw [BitVec.toNat_ofInt]
  omega
def permN (s : Nat → BitVec 64) : Nat → Nat → BitVec 64
  | 0 => s
  | k + 1 => keccak (permN s k)

set_option maxHeartbeats 4000000 in
theorem law_sha3Permutes (w : World) (hL : Laid3 w) (v : Value) (xs : List Int) (hv : NumsK .u64 w v xs) (tm : Int) (ht : (Lit.int .i64 tm).wf = true) :
    Calls Tryd.prog 4 #[v, .int .i64 tm] w fun e w' => e = .returned (.bool true) ∧ Below w.heap.size w w' := by
  obtain ⟨ht0, ht1⟩ := bd_i64 ht
  obtain ⟨a, n, cap, rfl, hn, hc1, hc2, hv0⟩ := hv.shape
  have HV := Lib.hid hv0
  have HN := Lib.hid hn
  have HT := Lib.hid hL
  have hS := hL.size
  clear hv hv0 hn hL ht
  have hA := rowIs_arr w 25 (fun _ => .int .u64 0) 34
  have hb1 : Below w.heap.size w (w.alloc (.cells (arrOf 25 fun _ => .int .u64 0) 34)) := (Below.refl _ _).alloc (Nat.le_refl _) _
  go_enter Tryd.func4, Tryd.ntmps4
  go_wp2_with (refine wpList_alloc_arr rfl 34 rfl (arrOf 25 fun _ => .int .u64 0) zero25 ?_)
  generalize hae : w.heap.size = ab at *
  have HA := Lib.hid hae
  clear hae
  go_loopw [6] (fun i wr => ∃ j : Nat, j ≤ 25 ∧ j ≤ n ∧ i = .int .i64 j ∧ wr.rowIs ab 34 25 (l64 (lanesTo xs j)) ∧ Below ab w wr) (fun i _ => 25 - (intOf i).toNat)
  case atStart => exact ⟨0, Nat.zero_le _, Nat.zero_le _, rfl, hA.congr fun i _ => by unfold l64 lanesTo; rw [if_neg (by omega)]; rfl, hb1⟩
  case round =>
    clear hA hb1
    obtain ⟨j, hj, hjn, rfl, hA, hb⟩ := hrel
    by_cases hlt : j < 25 ∧ j < n
    · obtain ⟨h1, h2⟩ := hlt
      have hvr := HV.out.below hb (by rw [HA.out]; exact Nat.le_refl _)
      obtain ⟨b, off, cap', he, _, _, _, hc⟩ := hvr.open_n HN.out (by omega)
      cases he
      have hjl : j < xs.length := by rw [HN.out]; exact h2
      have hcj := hc j hjl
      have hwf : (Lit.int .u64 xs[j]).wf = true := by
        obtain ⟨_, _, _, _, _, _, hw, _⟩ := hvr
        exact hw _ (List.getElem_mem hjl)
      have hbv := u64_bv hwf
      have HBV := Lib.hid hbv
      clear hc hvr hbv hwf
      have hcell := hA.cell (i := j) h1
      have hfr := hA.frozen j
      have b1 : (j : Int) < 25 := by omega
      have b2 : (j : Int) < (n : Int) := by omega
      have hab2 : ab ≤ ab := Nat.le_refl _
      go_wp2
      go_roundw
      case rel =>
        refine ⟨j + 1, by omega, by omega, by go_num, (hA.set j _).congr fun i hi => ?_, hb.setCell hab2 _⟩
        show (if i = j then _ else _) = _
        unfold l64 lanesTo
        by_cases e : i = j
        · subst e
          rw [if_pos rfl, if_pos (by omega), List.getD_eq_getElem?_getD, List.getElem?_eq_getElem hjl]
          exact congrArg (Value.int .u64) HBV.out
        · rw [if_neg e]
          by_cases h2 : i < j
          · rw [if_pos h2, if_pos (by omega)]
          · rw [if_neg h2, if_neg (by omega)]
      case measure => simp [intOf]; omega
    · have hend : ¬ j < 25 ∨ (j < 25 ∧ ¬ j < n) := by omega
      have hs0 : ab < wr.heap.size := hA.lt
      obtain ⟨s0, hs0e⟩ : ∃ s0, s0 = lanesTo xs j := ⟨_, rfl⟩
      rw [← hs0e] at hA
      clear hs0e hlt
      have hT1 := HT.out.below hb hS
      have hB0 := rowIs_arr wr 25 (fun _ => .int .u64 0) 34
      have hA1 := hA.alloc (.cells (arrOf 25 fun _ => .int .u64 0) 34)
      have hb2 := hb.alloc (Nat.le_of_lt hs0) (.cells (arrOf 25 fun _ => .int .u64 0) 34)
      rcases hend with k1 | ⟨k1, k2⟩
      · have i1 : ¬ (j : Int) < 25 := by omega
        go_wp2_with (first
          | refine wpList_load_arr rfl 34 (.tmp 5) rfl 25 arr25 hA rfl (by omega) ?_
          | refine wpList_alloc_arr rfl 34 rfl (arrOf 25 fun _ => .int .u64 0) zero25 ?_
          | (refine wpList_store_arr' rfl 34 (.tmp 7) (.tmp 25) rfl 25 arr25 hB0 rfl rfl rfl (by omega) (fun _ _ => rfl) ?_; intro w3 hB3 hg3 hs3
             replace hB3 := hB3.congr (g := l64 s0) (fun i hi => by unfold putN; rw [if_pos (by omega), Nat.sub_zero]; show l64 s0 (0 + i) = _; rw [Nat.zero_add])
             have hA3 := gb_rowIs hA1 hg3 (by omega)
             have hb3 := gb_below hb2 hg3 (by simp only [World.size_alloc]; omega) (Nat.le_of_lt hs0)
             have hT3 := Lib.hid (HT.out.below hb3 hS)
             have hne : ab ≠ wr.heap.size := by omega
             have hbb : ab ≤ wr.heap.size := by omega
             clear hA hB0 hA1 hb2 hg3 hs3 hT1 hb))
        generalize wr.heap.size = bb at *
        go_loopw [8] (fun i wr => ∃ k : Nat, (k : Int) ≤ tm % 3 + 1 ∧ i = .int .i64 k ∧ wr.rowIs ab 34 25 (l64 (permN s0 k)) ∧ wr.rowIs bb 34 25 (l64 (permN s0 k)) ∧ Hid (Laid3 wr) ∧ Below ab w wr) (fun i _ => 3 - (intOf i).toNat)
        case atStart => exact ⟨0, by omega, rfl, hA3, hB3, hT3, hb3⟩
        case round =>
          clear hA3 hB3 hT3 hb3
          obtain ⟨k, hk, rfl, hA, hB, hT4, hb⟩ := hrel
          have hsz : ab ≤ wr.heap.size := Nat.le_of_lt hA.lt
          have r0 : 0 ≤ tm % 3 := by omega
          have r1 : tm % 3 < 3 := by omega
          obtain ⟨R, hR⟩ : ∃ R, R = tm % 3 := ⟨_, rfl⟩
          have HR := Lib.hid hR
          by_cases hlt : (k : Int) ≤ tm % 3
          · have q1 : (k : Int) ≤ R := by omega
            have HQ := Lib.hid q1
            have kb : (k : Int) ≤ 3 := by omega
            clear hlt hk r0 r1 hR
            go_wp2_with (first
              | (go_at_call 17; refine (round_any tm _ _ ht0 ht1 (by omega) (by omega)).mono ?_; rintro e w2 ⟨rfl, rfl⟩; rw [← HR.out])
              | refine wpList_load_arr rfl 34 (.tmp 5) rfl 25 arr25 hA rfl (by omega) ?_
              | (go_at_call 18; refine (permute_any _ _ hT4.out).mono ?_; rintro e w3 ⟨rfl, hb3⟩
                 have hA3 := hA.of_block (hb3.block _ hA.lt)
                 have hB3 := hB.of_block (hb3.block _ hB.lt)
                 have hT3 := Lib.hid (hT4.out.below hb3 hT4.out.size)
                 have hb5 := hb.trans (hb3.mono hsz)
                 have hsz3 := Nat.le_trans hsz hb3.size
                 clear hA hB hT4 hb hb3 hsz)
              | (refine wpList_store_arr rfl 34 (.tmp 5) (.tmp 33) rfl 25 arr25 hA3 rfl rfl (by omega) (fun _ _ => rfl) ?_; intro w4 hA4 hg4 hs4
                 replace hA4 := hA4.congr (g := l64 (permN s0 (k + 1))) (fun i hi => by unfold putN; rw [if_pos (by omega), Nat.sub_zero]; rfl)
                 have hB4 := gb_rowIs hB3 hg4 (Ne.symm hne)
                 have hT5 := Lib.hid (hT3.out.below (gb_below (Below.refl _ _) hg4 hsz3 (Nat.le_refl _)) (by omega))
                 have hb6 := gb_below hb5 hg4 hsz3 (Nat.le_refl _)
                 have hsz4 := Nat.le_trans hsz3 hg4.size
                 clear hA3 hB3 hT3 hb5 hg4 hs4 hsz3)
              | refine wpList_load_arr rfl 34 (.tmp 7) rfl 25 arr25 hB4 rfl (by omega) ?_
              | (go_at_call 19; refine (refPermute_any _ _).mono ?_; rintro e w7 ⟨rfl, hb7⟩
                 have hA7 := hA4.of_block (hb7.block _ hA4.lt)
                 have hB7 := hB4.of_block (hb7.block _ hB4.lt)
                 have hT7 := Lib.hid (hT5.out.below hb7 hT5.out.size)
                 have hb8 := hb6.trans (hb7.mono hsz4)
                 have hsz7 := Nat.le_trans hsz4 hb7.size
                 clear hA4 hB4 hT5 hb6 hb7 hsz4)
              | (refine wpList_store_arr rfl 34 (.tmp 7) (.tmp 35) rfl 25 arr25 hB7 rfl rfl (by omega) (fun _ _ => rfl) ?_; intro w9 hB9 hg9 hs9
                 replace hB9 := hB9.congr (g := l64 (permN s0 (k + 1))) (fun i hi => by unfold putN; rw [if_pos (by omega), Nat.sub_zero]; rfl)
                 have hA9 := gb_rowIs hA7 hg9 hne
                 have hb9 := gb_below hb8 hg9 hsz7 hbb
                 have hT9 := Lib.hid (hT7.out.below (gb_below (B := ab) (Below.refl _ _) hg9 hsz7 hbb) (by omega))
                 clear hA7 hB7 hT7 hb8 hg9 hs9))
            go_roundw
            case rel => exact ⟨k + 1, by have := HR.out; have := HQ.out; omega, by go_num, hA9, hB9, hT9, hb9⟩
            case measure =>
              have := HR.out
              have := HQ.out
              simp [intOf]; omega
          · have q1 : ¬ (k : Int) ≤ R := by omega
            clear hlt hk r0 r1 hR
            go_wp2_with (first
              | (go_at_call 17; refine (round_any tm _ _ ht0 ht1 (by omega) (by omega)).mono ?_; rintro e w2 ⟨rfl, rfl⟩; rw [← HR.out])
              | refine wpList_load_arr rfl 34 (.tmp 5) rfl 25 arr25 hA rfl (by omega) ?_
              | refine wpList_load_arr rfl 34 (.tmp 7) rfl 25 arr25 hB rfl (by omega) ?_
              | refine wpList_bin2 (o := ⟨some 38, _, _, _, _, _⟩) rfl .eql 34 34 _ _ rfl (fun _ => run_eqGuard_agg _ _ _ _ _ _ _ (by kernel_rfl)) (fun w => run_eql_arr w 34 33 25 .u64 (fun i => ((permN s0 k i).toNat : Int)) Tryd.underlying34 Tryd.underlying33 (by kernel_rfl)) rfl rfl ?_
              | (go_at_call 9; refine (awake3_any _ hT4.out).mono ?_; rintro e w5 ⟨rfl, hb5⟩))
            go_ret
            exact ⟨rfl, by rw [HA.out]; exact hb.trans (hb5.mono hsz)⟩
      · have i1 : (j : Int) < 25 := by omega
        have i2 : ¬ (j : Int) < (n : Int) := by omega
        go_wp2_with (first
          | refine wpList_load_arr rfl 34 (.tmp 5) rfl 25 arr25 hA rfl (by omega) ?_
          | refine wpList_alloc_arr rfl 34 rfl (arrOf 25 fun _ => .int .u64 0) zero25 ?_
          | (refine wpList_store_arr' rfl 34 (.tmp 7) (.tmp 25) rfl 25 arr25 hB0 rfl rfl rfl (by omega) (fun _ _ => rfl) ?_; intro w3 hB3 hg3 hs3
             replace hB3 := hB3.congr (g := l64 s0) (fun i hi => by unfold putN; rw [if_pos (by omega), Nat.sub_zero]; show l64 s0 (0 + i) = _; rw [Nat.zero_add])
             have hA3 := gb_rowIs hA1 hg3 (by omega)
             have hb3 := gb_below hb2 hg3 (by simp only [World.size_alloc]; omega) (Nat.le_of_lt hs0)
             have hT3 := Lib.hid (HT.out.below hb3 hS)
             have hne : ab ≠ wr.heap.size := by omega
             have hbb : ab ≤ wr.heap.size := by omega
             clear hA hB0 hA1 hb2 hg3 hs3 hT1 hb))
        generalize wr.heap.size = bb at *
        go_loopw [8] (fun i wr => ∃ k : Nat, (k : Int) ≤ tm % 3 + 1 ∧ i = .int .i64 k ∧ wr.rowIs ab 34 25 (l64 (permN s0 k)) ∧ wr.rowIs bb 34 25 (l64 (permN s0 k)) ∧ Hid (Laid3 wr) ∧ Below ab w wr) (fun i _ => 3 - (intOf i).toNat)
        case atStart => exact ⟨0, by omega, rfl, hA3, hB3, hT3, hb3⟩
        case round =>
          clear hA3 hB3 hT3 hb3
          obtain ⟨k, hk, rfl, hA, hB, hT4, hb⟩ := hrel
          have hsz : ab ≤ wr.heap.size := Nat.le_of_lt hA.lt
          have r0 : 0 ≤ tm % 3 := by omega
          have r1 : tm % 3 < 3 := by omega
          obtain ⟨R, hR⟩ : ∃ R, R = tm % 3 := ⟨_, rfl⟩
          have HR := Lib.hid hR
          by_cases hlt : (k : Int) ≤ tm % 3
          · have q1 : (k : Int) ≤ R := by omega
            have HQ := Lib.hid q1
            have kb : (k : Int) ≤ 3 := by omega
            clear hlt hk r0 r1 hR
            go_wp2_with (first
              | (go_at_call 17; refine (round_any tm _ _ ht0 ht1 (by omega) (by omega)).mono ?_; rintro e w2 ⟨rfl, rfl⟩; rw [← HR.out])
              | refine wpList_load_arr rfl 34 (.tmp 5) rfl 25 arr25 hA rfl (by omega) ?_
              | (go_at_call 18; refine (permute_any _ _ hT4.out).mono ?_; rintro e w3 ⟨rfl, hb3⟩
                 have hA3 := hA.of_block (hb3.block _ hA.lt)
                 have hB3 := hB.of_block (hb3.block _ hB.lt)
                 have hT3 := Lib.hid (hT4.out.below hb3 hT4.out.size)
                 have hb5 := hb.trans (hb3.mono hsz)
                 have hsz3 := Nat.le_trans hsz hb3.size
                 clear hA hB hT4 hb hb3 hsz)
              | (refine wpList_store_arr rfl 34 (.tmp 5) (.tmp 33) rfl 25 arr25 hA3 rfl rfl (by omega) (fun _ _ => rfl) ?_; intro w4 hA4 hg4 hs4
                 replace hA4 := hA4.congr (g := l64 (permN s0 (k + 1))) (fun i hi => by unfold putN; rw [if_pos (by omega), Nat.sub_zero]; rfl)
                 have hB4 := gb_rowIs hB3 hg4 (Ne.symm hne)
                 have hT5 := Lib.hid (hT3.out.below (gb_below (Below.refl _ _) hg4 hsz3 (Nat.le_refl _)) (by omega))
                 have hb6 := gb_below hb5 hg4 hsz3 (Nat.le_refl _)
                 have hsz4 := Nat.le_trans hsz3 hg4.size
                 clear hA3 hB3 hT3 hb5 hg4 hs4 hsz3)
              | refine wpList_load_arr rfl 34 (.tmp 7) rfl 25 arr25 hB4 rfl (by omega) ?_
              | (go_at_call 19; refine (refPermute_any _ _).mono ?_; rintro e w7 ⟨rfl, hb7⟩
                 have hA7 := hA4.of_block (hb7.block _ hA4.lt)
                 have hB7 := hB4.of_block (hb7.block _ hB4.lt)
                 have hT7 := Lib.hid (hT5.out.below hb7 hT5.out.size)
                 have hb8 := hb6.trans (hb7.mono hsz4)
                 have hsz7 := Nat.le_trans hsz4 hb7.size
                 clear hA4 hB4 hT5 hb6 hb7 hsz4)
              | (refine wpList_store_arr rfl 34 (.tmp 7) (.tmp 35) rfl 25 arr25 hB7 rfl rfl (by omega) (fun _ _ => rfl) ?_; intro w9 hB9 hg9 hs9
                 replace hB9 := hB9.congr (g := l64 (permN s0 (k + 1))) (fun i hi => by unfold putN; rw [if_pos (by omega), Nat.sub_zero]; rfl)
                 have hA9 := gb_rowIs hA7 hg9 hne
                 have hb9 := gb_below hb8 hg9 hsz7 hbb
                 have hT9 := Lib.hid (hT7.out.below (gb_below (B := ab) (Below.refl _ _) hg9 hsz7 hbb) (by omega))
                 clear hA7 hB7 hT7 hb8 hg9 hs9))
            go_roundw
            case rel => exact ⟨k + 1, by have := HR.out; have := HQ.out; omega, by go_num, hA9, hB9, hT9, hb9⟩
            case measure =>
              have := HR.out
              have := HQ.out
              simp [intOf]; omega
          · have q1 : ¬ (k : Int) ≤ R := by omega
            clear hlt hk r0 r1 hR
            go_wp2_with (first
              | (go_at_call 17; refine (round_any tm _ _ ht0 ht1 (by omega) (by omega)).mono ?_; rintro e w2 ⟨rfl, rfl⟩; rw [← HR.out])
              | refine wpList_load_arr rfl 34 (.tmp 5) rfl 25 arr25 hA rfl (by omega) ?_
              | refine wpList_load_arr rfl 34 (.tmp 7) rfl 25 arr25 hB rfl (by omega) ?_
              | refine wpList_bin2 (o := ⟨some 38, _, _, _, _, _⟩) rfl .eql 34 34 _ _ rfl (fun _ => run_eqGuard_agg _ _ _ _ _ _ _ (by kernel_rfl)) (fun w => run_eql_arr w 34 33 25 .u64 (fun i => ((permN s0 k i).toNat : Int)) Tryd.underlying34 Tryd.underlying33 (by kernel_rfl)) rfl rfl ?_
              | (go_at_call 9; refine (awake3_any _ hT4.out).mono ?_; rintro e w5 ⟨rfl, hb5⟩))
            go_ret
            exact ⟨rfl, by rw [HA.out]; exact hb.trans (hb5.mono hsz)⟩
end Go.Proofs.YtmfogngfdgpahaaDoor
