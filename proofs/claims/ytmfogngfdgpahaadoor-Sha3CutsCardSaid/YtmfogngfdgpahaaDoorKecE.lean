/- The program's sponge: closed, give. -/
import Derived.Test.YtmfogngfdgpahaaDoorKecD
import Derived.Test.YtmfogngfdgpahaaDoorCat
namespace Go.Proofs.YtmfogngfdgpahaaDoor
open Go.RowKit Go.Deep

theorem zeroSponge : (Tryd.prog.info? 57).map (fun i => i.zero) = some (some (.agg (arrOf 27 (spF zeroS 0 0)))) := by kernel_rfl
theorem spF_one (s : Nat → BitVec 64) (r i n : Nat) : ∀ j, j < n → (spF s r i j).oneCell' = true := fun j _ => by unfold spF; split <;> (try split) <;> rfl

set_option maxHeartbeats 1600000 in
theorem closed_any (r e : Nat) (v : Value) (L : List (List UInt8)) (w : World) (hL : Laid3 w) (hB : Bss w v L) (hr0 : 0 < r) (hr : r < 200) (he : e < 256) :
    Calls Tryd.prog 26 #[.int .i64 (r : Int), .int .u8 (e : Int), v] w fun e' w' => e' = .returned (.agg (arrOf 27 (spF (closedS r e L.flatten) r r))) ∧ Below w.heap.size w w' := by
  have HV := Lib.hid hB
  obtain ⟨a, cap, rfl, h1, h2, h3, h4⟩ := hB
  clear h3 h4
  unfold maxLen at h2
  have hT := Lib.hid hL
  have hS := hL.size
  clear hL
  go_enter Tryd.func26, Tryd.ntmps26
  have hR := (rowIs_arr w 27 (spF zeroS 0 0) 57).alloc (.cells (arrOf 27 (spF zeroS 0 0)) 57)
  have hY := rowIs_arr (w.alloc (.cells (arrOf 27 (spF zeroS 0 0)) 57)) 27 (spF zeroS 0 0) 57
  have hb : Below w.heap.size w ((w.alloc (.cells (arrOf 27 (spF zeroS 0 0)) 57)).alloc (.cells (arrOf 27 (spF zeroS 0 0)) 57)) :=
    ((Below.refl _ _).alloc (Nat.le_refl _) _).alloc (by simp only [World.size_alloc]; omega) _
  simp only [World.size_alloc] at hR hY
  go_wp2_with (first
    | refine wpList_alloc_arr rfl 57 rfl (arrOf 27 (spF zeroS 0 0)) zeroSponge ?_
    | refine wpList_build_arr rfl 57 _ rfl (arrOf 27 (spF zeroS r 0)) (by kernel_rfl) ?_
    | (refine wpList_store_arr' rfl 57 (.tmp 7) (.tmp 11) rfl 27 arrSponge hY rfl (by first | rfl | simp only [World.size_alloc]) rfl (by omega) (spF_one _ _ _ _) ?_; intro w2 hY2 hg2 hs2
       replace hY2 := hY2.congr (g := spF zeroS r 0) (fun i hi => by unfold putN; rw [if_pos (by omega), Nat.sub_zero])
       have hR2 := gb_rowIs hR hg2 (by omega)
       have hb2 := gb_below hb hg2 (by simp only [World.size_alloc]; omega) (by omega)
       clear hR hY hb hg2 hs2))
  have hne : w.heap.size ≠ w.heap.size + 1 := by omega
  have hy3 : 3 ≤ w.heap.size + 1 := by omega
  have hyw : w.heap.size ≤ w.heap.size + 1 := by omega
  generalize hye : w.heap.size + 1 = y at *
  generalize hqe : w.heap.size = q at *
  have HQ := Lib.hid hqe
  clear hye hqe
  go_loopw [14] (fun i wr => ∃ j : Nat, j ≤ L.length ∧ i = .int .i64 j ∧ wr.rowIs y 57 27 (spF (takeS r (zeroS, 0) (catTo L j)).1 r (takeS r (zeroS, 0) (catTo L j)).2) ∧ wr.rowIs q 57 27 (spF zeroS 0 0) ∧ Below q w wr) (fun i _ => L.length - (intOf i).toNat)
  case atStart => exact ⟨0, Nat.zero_le _, rfl, hY2, hR2, hb2⟩
  case round =>
    clear hY2 hR2 hb2
    obtain ⟨j, hj, rfl, hY, hR, hb⟩ := hrel
    have hlt0 := takeS_lt r hr0 (catTo L j) (zeroS, 0) hr0
    by_cases hlt : j < L.length
    · have hsu : takeS r (takeS r (zeroS, 0) (catTo L j)) L[j] = takeS r (zeroS, 0) (catTo L (j + 1)) := by rw [catTo_succ L j hlt, takeS_append]
      generalize takeS r (zeroS, 0) (catTo L j) = p at *
      obtain ⟨s2, p2⟩ := p
      simp only at hlt0 hY
      have HS := Lib.hid hsu
      clear hsu
      have hVr := HV.out.below hb (by rw [HQ.out]; exact Nat.le_refl _)
      obtain ⟨b, off, cap', he', _, _, _, hc⟩ := hVr.open_cons (by omega)
      cases he'
      obtain ⟨u, hcj, hu⟩ := hc j hlt
      clear hc hVr
      have hAw : Away u y := by
        obtain ⟨b, off, cap', he', _, _, _, hc⟩ := HV.out.open_cons (by omega)
        cases he'
        obtain ⟨u', hcj', hu'⟩ := hc j hlt
        have e1 : u = u' := by
          have h5 := (hb.cell (p := ⟨b, off + j, none⟩) (by rw [← HQ.out]; exact (show b < w.heap.size by assumption))).trans hcj'
          rw [hcj] at h5
          exact Option.some.inj h5
        subst e1
        exact hu'.away (by rw [HQ.out]; exact hyw)
      have HU := Lib.hid hu
      have hTr := hT.out.below hb hS
      clear hu
      obtain ⟨au, cu, rfl, _, _, _, _⟩ := HU.out
      go_wp2_with (go_at_call 32; refine (ptake_any y _ s2 r p2 _ L[j] _ hTr hY HU.out hAw hy3 hlt0 hr).mono ?_; rintro e' w3 ⟨rfl, hY3, hg3⟩)
      go_roundw
      case rel => exact ⟨j + 1, by omega, by go_num, by rw [HS.out] at hY3; exact hY3, gb_rowIs hR hg3 hne, gb_below hb hg3 (by have := hb.size; rw [HQ.out] at this; exact this) hyw⟩
      case measure => simp [intOf]; omega
    · obtain rfl : j = L.length := by omega
      have hcl : closedS r e L.flatten = layB (layB (takeS r (zeroS, 0) (catTo L L.length)).1 (takeS r (zeroS, 0) (catTo L L.length)).2 e) (r - 1) 128 := by rw [catTo_all L _ (Nat.le_refl _)]; rfl
      generalize takeS r (zeroS, 0) (catTo L L.length) = p at *
      obtain ⟨s2, p2⟩ := p
      simp only at hlt0 hY hcl
      have HC := Lib.hid hcl
      clear hcl
      have hat := hY.cell (i := 26) (by omega)
      rw [spF_at] at hat
      have hbq : q ≤ wr.heap.size := by have := hb.size; rw [HQ.out] at this; exact this
      have b0 : (1 : Int) ≤ (r : Int) := by omega
      have b1 : (r : Int) < 200 := by omega
      go_wp2_with fail
      refine (play_any y _ s2 r p2 p2 e _ hY (by omega) he).mono ?_
      rintro e' w3 ⟨rfl, hY3, hg3⟩
      have hR3 := gb_rowIs hR hg3 hne
      have hb3 := gb_below hb hg3 hbq hyw
      have hq3 := Nat.le_trans hbq hg3.size
      clear hY hR hb hat hg3
      go_wp2_with fail
      refine (play_cell y _ _ r p2 _ 128 _ hY3 (by omega) (by omega) (by omega) (by omega)).mono ?_
      rintro e' w4 ⟨rfl, hY4, hg4⟩
      have hR4 := gb_rowIs hR3 hg4 hne
      have hb4 := gb_below hb3 hg4 hq3 hyw
      have hq4 := Nat.le_trans hq3 hg4.size
      have e1 : ((r : Int) - 1).toNat = r - 1 := by omega
      have e2 : (128 : Int).toNat = 128 := rfl
      rw [e1, e2, ← HC.out] at hY4
      have hat := hY4.cell (i := 26) (by omega)
      have hfr := hY4.frozen 26
      rw [spF_at] at hat
      have hY5 := (hY4.set 26 (.int .i64 (r : Int))).congr (fun k hk => spF_set _ _ _ r k hk)
      have hR5 := hR4.setOther (a := ⟨y, 26, none⟩) hne (.int .i64 (r : Int))
      have hb5 := hb4.setCell (p := ⟨y, 26, none⟩) hyw (.int .i64 (r : Int))
      clear hY3 hR3 hb3 hY4 hg4 hR4 hb4 e1 e2
      go_wp2_with (first
        | refine wpList_load_arr rfl 57 (.tmp 7) rfl 27 arrSponge hY5 rfl (by omega) ?_
        | (refine wpList_store_arr rfl 57 (.tmp 6) (.tmp 30) rfl 27 arrSponge hR5 rfl rfl (by omega) (fun j _ => spF_one _ _ _ 27 (0 + j) (by omega)) ?_; intro w6 hR6 hg6 hs6))
      refine ret_cell_arr rfl arrSponge hR6 rfl (by omega) rfl ⟨?_, ?_⟩
      · refine congrArg (fun x => Ending.returned (.agg x)) (arrOf_congr fun i hi => ?_)
        unfold putN
        rw [if_pos (by omega)]
        show spF (closedS r e L.flatten) r r (0 + (0 + i - 0)) = _
        rw [Nat.zero_add, Nat.zero_add, Nat.sub_zero]
      · rw [HQ.out]
        exact gb_below hb5 hg6 (by have := hb5.size; rw [HQ.out] at this; exact this) (Nat.le_refl _)

theorem ob_lt (r : Nat) (s : Nat → BitVec 64) (p : Nat) : ob r s p < 256 := by
  unfold ob byteS
  split <;> omega
def pieceL (r : Nat) (s : Nat → BitVec 64) (p n : Nat) : List UInt8 := (List.range n).map fun i => UInt8.ofNat (ob r s (p + i))
theorem pieceL_length (r : Nat) (s : Nat → BitVec 64) (p n : Nat) : (pieceL r s p n).length = n := by simp [pieceL]
theorem pieceL_zero (r : Nat) (s : Nat → BitVec 64) (n : Nat) : pieceL r s 0 n = outL r s n := by unfold pieceL outL; simp only [Nat.zero_add]
theorem outL_piece (r : Nat) (s : Nat → BitVec 64) (p n : Nat) : outL r s (p + n) = outL r s p ++ pieceL r s p n := by
  unfold outL pieceL
  rw [List.range_add, List.map_append, List.map_map]
  rfl
theorem laid_piece {w : World} {b n : Nat} {r : Nat} {s : Nat → BitVec 64} {p : Nat} (h : w.rowIs b 5 n (laidTo (fun i => ob r s (p + i)) n)) (hn : n ≤ maxLen) : Bs w (.slice (some ⟨b, 0, none⟩) n n) (pieceL r s p n) := by
  have hB : Bs w (.slice (some ⟨b, 0, none⟩) (pieceL r s p n).length n) (pieceL r s p n) := by
    refine Bs.of_rowIs h _ (by rw [pieceL_length]; exact Nat.le_refl _) hn fun i hi => ?_
    rw [pieceL_length] at hi
    unfold laidTo
    rw [if_pos hi]
    have := ob_lt r s (p + i)
    simp [pieceL]
    omega
  rwa [pieceL_length] at hB
theorem gv_at_lt (r : Nat) (s : Nat → BitVec 64) (hr : 1 ≤ r) (p : Nat) (h : ¬ (gv r s p).2 = r) : (gv r s p).2 < r := by
  have := gv_pos r s hr p; omega
theorem byte_out (x : BitVec 64) (k : Nat) : ((x.toNat : Int) / 2 ^ (8 * k)) % 256 = ((x.toNat / 2 ^ (8 * k) % 256 : Nat) : Int) := by simp

set_option maxHeartbeats 1600000 in
theorem give_any (y : Nat) (t : TypeId) (s0 : Nat → BitVec 64) (r p n : Nat) (w : World) (hL : Laid3 w) (hrow : w.rowIs y t 27 (spF (gv r s0 p).1 r (gv r s0 p).2)) (hy : 3 ≤ y) (hr0 : 0 < r) (hr : r < 200) (hn : n ≤ 65536) :
    Calls Tryd.prog 27 #[.pointer (some ⟨y, 0, none⟩), .int .i64 (n : Int)] w fun e w' => ∃ v, e = .returned v ∧ Bs w' v (pieceL r s0 p n) ∧ w'.rowIs y t 27 (spF (gv r s0 (p + n)).1 r (gv r s0 (p + n)).2) ∧ w.grownBy w' (some y) := by
  have hmk := fun (w : World) => run_make_row' (P := Tryd.prog) 25 5 (.int .u8 0) 1 Tryd.underlying25 Try.info5 rfl .i64 .i64 n (by omega) (by omega) w
  have hmade := World.rowIs_made w (.int .u8 0) n 5
  have hyl := hrow.lt
  have hT := Lib.hid hL
  clear hL
  go_enter Tryd.func27, Tryd.ntmps27
  go_wp2
  have hrow1 := hrow.alloc (.cells (madeCells #[.int .u8 0] n) 5)
  have hg1 := gb_alloc (grownBy_refl w (some y)) (.cells (madeCells #[.int .u8 0] n) 5)
  have hoy : w.heap.size ≠ y := by omega
  have how : w.heap.size ≤ w.heap.size := Nat.le_refl _
  generalize hoe : w.heap.size = o at *
  have HO := Lib.hid hoe
  clear hoe hmk hrow
  go_loopw [11] (fun i wr => ∃ j : Nat, j ≤ n ∧ i = .int .i64 j ∧ wr.rowIs o 5 n (laidTo (fun i => ob r s0 (p + i)) j) ∧ wr.rowIs y t 27 (spF (gv r s0 (p + j)).1 r (gv r s0 (p + j)).2) ∧ w.grownBy wr (some y)) (fun i _ => n - (intOf i).toNat)
  case atStart => exact ⟨0, Nat.zero_le _, rfl, hmade.congr fun i _ => rfl, hrow1, hg1⟩
  case round =>
    clear hmade hrow1 hg1
    obtain ⟨j, hj, rfl, ho, hY, hg⟩ := hrel
    by_cases hlt : j < n
    · have hT1 := hT.out.grown hg hy
      have hps := gv_pos r s0 hr0 (p + j)
      have hstep : gv r s0 (p + (j + 1)) = if (gv r s0 (p + j)).2 = r then (keccak (gv r s0 (p + j)).1, 1) else ((gv r s0 (p + j)).1, (gv r s0 (p + j)).2 + 1) := rfl
      have hob : ob r s0 (p + j) = if (gv r s0 (p + j)).2 = r then byteS (keccak (gv r s0 (p + j)).1) 0 else byteS (gv r s0 (p + j)).1 (gv r s0 (p + j)).2 := rfl
      generalize gv r s0 (p + j) = q at *
      obtain ⟨s2, p2⟩ := q
      simp only at hstep hob hY hps
      have hat := hY.cell (i := 26) (by omega)
      have hrt := hY.cell (i := 25) (by omega)
      rw [spF_at] at hat
      rw [spF_rate] at hrt
      by_cases e : p2 = r
      · rw [if_pos e] at hstep hob
        have HS := Lib.hid hstep
        have HOB := Lib.hid hob
        clear hstep hob
        have hte : ((p2 : Int) == (r : Int)) = true := by simp; omega
        go_wp2
        go_quiet (fail)
        replace hY : (wr.drewN nq).rowIs y t 27 (spF s2 r p2) := hY
        replace ho : (wr.drewN nq).rowIs o 5 n (laidTo (fun i => ob r s0 (p + i)) j) := ho
        replace hg := gb_drew hg nq
        replace hT1 : Laid3 (wr.drewN nq) := hT.out.grown hg hy
        clear hat hrt
        go_wp2_with (first
          | (go_at_call 34; refine (pturn_any y t _ r _ _ hT1 hY).mono ?_; rintro e w5 ⟨rfl, hY5, hg5⟩
             replace ho := gb_rowIs ho hg5 hoy
             replace hg := grownBy_trans hg hg5
             have hat := hY5.cell (i := 26) (by omega)
             have hl0 := hY5.cell (i := 0) (by omega)
             rw [spF_at] at hat
             rw [spF_lane _ _ _ _ (by omega)] at hl0
             have hfo := ho.frozen j
             have hco := ho.cell (i := j) hlt
             have hfy := hY5.frozen 26
             clear hg5 hY))
        go_region
        go_wp2
        go_roundw
        case rel =>
          refine ⟨j + 1, by omega, by go_num, ((laid_step ho ?_).drew).setOther hoy _, ?_, gb_setb (gb_drew (gb_set hg (by rw [HO.out]; exact how) _) 1) _⟩
          · rw [HOB.out]
            unfold byteS
            simp
          · rw [HS.out]
            exact (((hY5.setOther (Ne.symm hoy) _).drew).set 26 _).congr fun k hk => spF_set _ _ _ 1 k hk
        case measure => simp [intOf]; omega
      · rw [if_neg e] at hstep hob
        have HS := Lib.hid hstep
        have HOB := Lib.hid hob
        clear hstep hob
        have hte : ((p2 : Int) == (r : Int)) = false := by simp; omega
        have hpr : p2 < r := by omega
        have b0 : (0 : Int) ≤ (p2 : Int) := by omega
        have b1 : ((p2 / 8 : Nat) : Int) < 25 := by omega
        have b2 : (p2 : Int) < 200 := by omega
        go_wp2
        go_quiet (fail)
        replace hY : (wr.drewN nq).rowIs y t 27 (spF s2 r p2) := hY
        replace ho : (wr.drewN nq).rowIs o 5 n (laidTo (fun i => ob r s0 (p + i)) j) := ho
        replace hg := gb_drew hg nq
        have hl0 := hY.cell (i := p2 / 8) (by omega)
        rw [spF_lane _ _ _ _ (by omega)] at hl0
        have hfo := ho.frozen j
        have hco := ho.cell (i := j) hlt
        have hfy := hY.frozen 26
        clear hat hrt
        have hat := hY.cell (i := 26) (by omega)
        rw [spF_at] at hat
        generalize wr.drewN nq = w5 at *
        go_wp2
        go_region
        go_wp2
        go_roundw
        case rel =>
          refine ⟨j + 1, by omega, by go_num, ((laid_step ho ?_).drew).setOther hoy _, ?_, gb_setb (gb_drew (gb_set hg (by rw [HO.out]; exact how) _) 1) _⟩
          · rw [HOB.out]
            unfold byteS
            rw [Nat.mul_comm 8 (p2 % 8)]
            simp
          · rw [HS.out]
            exact (((hY.setOther (Ne.symm hoy) _).drew).set 26 _).congr fun k hk => spF_set _ _ _ (p2 + 1) k hk
        case measure => simp [intOf]; omega
    · obtain rfl : j = n := by omega
      have hB := laid_piece ho (by unfold maxLen; omega)
      go_wp2
      go_ret
      exact ⟨_, rfl, hB, hY, hg⟩
end Go.Proofs.YtmfogngfdgpahaaDoor
