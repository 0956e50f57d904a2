/- missivelaw3.Sha3Reads: the walk. -/
import Derived.Test.YtmfogngfdgpahaaDoorKecG
import Derived.Test.YtmfogngfdgpahaaDoorNumsK
import Derived.Test.YtmfogngfdgpahaaDoorLint
namespace Go.Proofs.YtmfogngfdgpahaaDoor
open Go.RowKit Go.Deep

theorem run_sliceTo' (w : World) (ad : Option Addr) (n cap k : Nat) (hk : k ≤ cap) :
    (Instr.sliceAt 25 (.slice ad n cap) none (some (.int .i64 (k : Int))) none).run Tryd.prog w = .ok (.slice ad k cap) w := by
  cases hq : Tryd.prog.info? 5 with
  | none =>
    have := Try.info5
    simp [hq] at this
  | some i =>
    have hs : i.size = 1 := by
      have := Try.info5
      simp [hq] at this
      exact this.2.1
    have hb := run_bound_in (P := Tryd.prog) w .i64 k cap .sliceAcap hk
    have hx : ∀ x : Addr, x.add 0 = x := fun x => by unfold Addr.add; simp
    by_cases hc : cap = 0
    · subst hc
      simp [Instr.sliceAt, run_underlying Tryd.underlying25 w, Instr.slice, Instr.sliceBounds, sizeOf, typeInfo, hq, hs, hb, Result.andThen]
    · simp [Instr.sliceAt, run_underlying Tryd.underlying25 w, Instr.slice, Instr.sliceBounds, sizeOf, typeInfo, hq, hs, hc, hb, Result.andThen]
      cases ad with
      | none => rfl
      | some x => simp [hx]
theorem exec_sliceTo {w : World} (ρ : Operand → Value) (x hi : Operand) (t : TypeId) {ad : Option Addr} {n cap k : Nat} {z : Int} (hx : ρ x = .slice ad n cap) (hhi : ρ hi = .int .i64 z) (hz : z = (k : Int)) (hk : k ≤ cap) :
    (execOp ρ (mkOp (.slice 25 x none (some hi) none) t)).run Tryd.prog w = .ok (.value (.slice ad k cap)) w := by
  simp [execOp, mkOp, hx, hhi, hz, run_sliceTo' w ad n cap k hk, Result.andThen]

theorem shake128_p (p : Nat) (v : Value) (l : List UInt8) (w : World) (hL : Laid3 w) (hB : Bss w v [l]) (hp : p ≤ 65536) :
    Calls Tryd.prog 14 #[.int .i64 (p : Int), v] w fun e w' => ∃ v', e = .returned v' ∧ Bs w' v' (outL 168 (closedS 168 31 l) p) ∧ Below w.heap.size w w' := by
  have h := shake128_any p v [l] w hL hB (by omega)
  rw [show (min (p : Int) 65536).toNat = p by omega, show [l].flatten = l by simp] at h
  exact h
theorem shake256_p (p : Nat) (v : Value) (l : List UInt8) (w : World) (hL : Laid3 w) (hB : Bss w v [l]) (hp : p ≤ 65536) :
    Calls Tryd.prog 16 #[.int .i64 (p : Int), v] w fun e w' => ∃ v', e = .returned v' ∧ Bs w' v' (outL 136 (closedS 136 31 l) p) ∧ Below w.heap.size w w' := by
  have h := shake256_any p v [l] w hL hB (by omega)
  rw [show (min (p : Int) 65536).toNat = p by omega, show [l].flatten = l by simp] at h
  exact h
theorem newReader_one (v : Value) (l : List UInt8) (w : World) (hL : Laid3 w) (hB : Bss w v [l]) :
    Calls Tryd.prog 20 #[v] w fun e w' => ∃ y, e = .returned (.pointer (some ⟨y, 0, none⟩)) ∧ w.heap.size ≤ y ∧ ReaderAt w' y l 0 ∧ Below w.heap.size w w' := by
  have h := newReader_any v [l] w hL hB
  rwa [show [l].flatten = l by simp] at h

set_option maxHeartbeats 16000000 in
set_option maxRecDepth 100000 in
theorem law_sha3Reads (w : World) (hL : Laid3 w) (vb : Value) (lb : List UInt8) (hvb : Bs w vb lb) (vl : Value) (xs : List Int) (hvl : NumsK .i64 w vl xs) (n : Int) (hn : (Lit.int .i64 n).wf = true) (m : Int) (hm : (Lit.int .i64 m).wf = true) :
    Calls Tryd.prog 5 #[vb, vl, .int .i64 n, .int .i64 m] w fun e w' => e = .returned (.bool true) ∧ Below w.heap.size w w' := by
  obtain ⟨hn0, hn1⟩ := bd_i64 hn
  obtain ⟨hm0, hm1⟩ := bd_i64 hm
  obtain ⟨ab, nb, cb, rfl, hnb, f1, f2, hb0⟩ := hvb.shape
  obtain ⟨al, nl, cl, rfl, hnl, f3, f4, hl0⟩ := hvl.shape
  have HVB := Lib.hid hb0
  have HVL := Lib.hid hl0
  have HNB := Lib.hid hnb
  have HNL := Lib.hid hnl
  have HTh := Lib.hid hL
  clear hvb hvl hb0 hl0 hnb hnl hL hn hm
  by_cases c1 : 500 < nb
  · have d1 : (500 : Int) < (nb : Int) := by omega
    go_enter Tryd.func5, Tryd.ntmps5
    go_wp2_with (go_at_call 9; refine (awake3_any _ HTh.out).mono ?_; rintro e w2 ⟨rfl, hb2⟩)
    go_ret
    exact ⟨rfl, hb2⟩
  have d1 : ¬ (500 : Int) < (nb : Int) := by omega
  by_cases c2 : 20 < nl
  · have d2 : (20 : Int) < (nl : Int) := by omega
    go_enter Tryd.func5, Tryd.ntmps5
    go_wp2_with (go_at_call 9; refine (awake3_any _ HTh.out).mono ?_; rintro e w2 ⟨rfl, hb2⟩)
    go_ret
    exact ⟨rfl, hb2⟩
  have d2 : ¬ (20 : Int) < (nl : Int) := by omega
  by_cases c3 : n < 0
  · go_enter Tryd.func5, Tryd.ntmps5
    go_wp2_with (go_at_call 9; refine (awake3_any _ HTh.out).mono ?_; rintro e w2 ⟨rfl, hb2⟩)
    go_ret
    exact ⟨rfl, hb2⟩
  by_cases c4 : n > 500
  · go_enter Tryd.func5, Tryd.ntmps5
    go_wp2_with (go_at_call 9; refine (awake3_any _ HTh.out).mono ?_; rintro e w2 ⟨rfl, hb2⟩)
    go_ret
    exact ⟨rfl, hb2⟩
  by_cases c5 : m < n
  · go_enter Tryd.func5, Tryd.ntmps5
    go_wp2_with (go_at_call 9; refine (awake3_any _ HTh.out).mono ?_; rintro e w2 ⟨rfl, hb2⟩)
    go_ret
    exact ⟨rfl, hb2⟩
  by_cases c6 : m > 800
  · go_enter Tryd.func5, Tryd.ntmps5
    go_wp2_with (go_at_call 9; refine (awake3_any _ HTh.out).mono ?_; rintro e w2 ⟨rfl, hb2⟩)
    go_ret
    exact ⟨rfl, hb2⟩
  obtain ⟨N, rfl⟩ := Int.eq_ofNat_of_zero_le (show 0 ≤ n by omega)
  obtain ⟨M, rfl⟩ := Int.eq_ofNat_of_zero_le (show 0 ≤ m by omega)
  have hNM : N ≤ M := by omega
  have hN5 : N ≤ 500 := by omega
  have hM8 : M ≤ 800 := by omega
  have hS := HTh.out.size
  have hR1 : Hid (Bss (w.alloc (.cells #[.slice ab nb cb] 25)) (.slice (some ⟨w.heap.size, 0, none⟩) 1 1) [lb]) := Bss.one HVB.out rfl
  have hT1 := Lib.hid (HTh.out.alloc (.cells #[.slice ab nb cb] 25))
  have hb1 : Below w.heap.size w (w.alloc (.cells #[.slice ab nb cb] 25)) := (Below.refl _ _).alloc (Nat.le_refl _) _
  go_enter Tryd.func5, Tryd.ntmps5
  go_wp2_with (go_at_call 20; refine (newReader_one _ lb _ hT1.out hR1.out).mono ?_; rintro e w2 ⟨y, rfl, hyw, hRd, hb2⟩
               have hb := hb1.trans (hb2.mono hb1.size)
               have hyw2 : w.heap.size ≤ y := by simp at hyw; omega
               have hy3 : 3 ≤ y := by omega
               have hT2 := Lib.hid (hT1.out.below hb2 hT1.out.size)
               clear hyw hb1 hb2 hT1 hR1)
  have hyl := hRd.lt
  have hO0 := Owns.nil w2 w2.heap.size
  have hz0 : w.heap.size ≤ w2.heap.size := hb.size
  generalize hbe : w2.heap.size = base at *
  have HBE := Lib.hid hbe
  clear hbe
  go_loopw [10, 11] (fun o i wr => ∃ j p : Nat, j ≤ nl ∧ p ≤ 200 * j ∧ i = .int .i64 j ∧ ReaderAt wr y lb p ∧ Owns wr base o (outL 168 (closedS 168 31 lb) p) ∧ base ≤ wr.heap.size ∧ Hid (Laid3 wr) ∧ Below w.heap.size w wr) (fun _ i _ => nl - (intOf i).toNat)
  case atStart => exact ⟨0, 0, Nat.zero_le _, Nat.zero_le _, rfl, hRd, hO0, by rw [HBE.out]; exact Nat.le_refl _, hT2, hb⟩
  case round =>
    clear hRd hO0 hT2 hb
    obtain ⟨j, p, hj, hp, rfl, hRd, hO, hbz, hT, hb⟩ := hrel
    have hol : (outL 168 (closedS 168 31 lb) p).length = p := outL_length _ _ _
    obtain ⟨am, cm, hve⟩ := hO.shape
    rw [hol] at hve
    subst hve
    have HOL := Lib.hid hol
    clear hol
    by_cases hlt : j < nl
    · have hvr := HVL.out.below hb (Nat.le_refl _)
      obtain ⟨b, off, cap', he, _, _, _, hc⟩ := hvr.open_n HNL.out (by omega)
      cases he
      have hjl : j < xs.length := by rw [HNL.out]; exact hlt
      have hcj := hc j hjl
      have hwf : (Lit.int .i64 xs[j]).wf = true := by
        obtain ⟨_, _, _, _, _, _, hw, _⟩ := hvr
        exact hw _ (List.getElem_mem hjl)
      obtain ⟨g0, g1⟩ := bd_i64 hwf
      clear hc hvr hwf
      generalize xs[j] = x at *
      obtain ⟨k, hk⟩ := Int.eq_ofNat_of_zero_le (show 0 ≤ x % 200 by omega)
      have hk200 : k < 200 := by omega
      have HK := Lib.hid hk
      clear hk
      have i1 : (j : Int) < (nl : Int) := by omega
      by_cases hk0 : k = 0
      · go_wp2_with (first
          | (go_at_call 17; refine (round_any x _ _ g0 g1 (by omega) (by omega)).mono ?_; rintro e w3 ⟨rfl, rfl⟩; rw [HK.out, hk0])
          | (go_at_call 21; refine (rread_out y _ _ (by omega)).mono ?_; rintro e w4 ⟨rfl, rfl⟩)
          | (refine wpList_app rfl (.tmp 66) (.tmp 67) rfl base _ _ _ [] hO (Bs.nil _) rfl rfl (by rw [HOL.out]; simp; omega) hbz ?_; intro v5 w5 hO5 hg5
             have hb5 := hb.grown hg5 (Nat.le_trans hz0 hbz) (fun k hk => Nat.le_trans hz0 (Owns.block hO k hk))
             have hR5 : ReaderAt w5 y lb p := hRd.of_block (hg5.block _ hRd.lt (fun e => by have := Owns.block hO y e.symm; omega))
             have hT5 := Lib.hid (HTh.out.below hb5 hS)
             have hz5 := Nat.le_trans hbz hg5.size))
        go_roundw
        case rel => exact ⟨j + 1, p, by omega, by omega, by go_num, hR5, by simpa using hO5, hz5, hT5, hb5⟩
        case measure => simp [intOf]; omega
      · have hk1 : 1 ≤ k := by omega
        go_wp2_with (first
          | (go_at_call 17; refine (round_any x _ _ g0 g1 (by omega) (by omega)).mono ?_; rintro e w3 ⟨rfl, rfl⟩; rw [HK.out])
          | (go_at_call 21; refine (rread_in y lb p _ _ hT.out hRd hy3 (by omega) (by omega)).mono ?_; rintro e w4 ⟨v4, rfl, hB4, hR4, hg4⟩
             have hkt : (k : Int).toNat = k := by omega
             rw [hkt] at hB4 hR4
             have hT4 := Lib.hid (hT.out.grown hg4 hy3)
             have hb4 := gb_below hb hg4 hb.size hyw2
             have hz4 := Nat.le_trans hbz hg4.size
             have hO4 : Owns w4 base (.slice am p cm) (outL 168 (closedS 168 31 lb) p) := hO.of_block fun q _ hq hql => hg4.block q hql (fun e => by have := Option.some.inj e; omega)
             obtain ⟨a4, n4, c4, rfl, e4, q1, q2, hB4'⟩ := hB4.shape
             rw [pieceL_length] at e4
             subst e4
             have HB4 := Lib.hid hB4'
             clear hg4 hRd hT hb hO hB4 hB4' hbz)
          | (refine wpList_app rfl (.tmp 66) (.tmp 67) rfl base _ _ _ _ hO4 HB4.out rfl rfl (by rw [HOL.out, pieceL_length]; omega) hz4 ?_; intro v5 w5 hO5 hg5
             have hb5 := hb4.grown hg5 (Nat.le_trans hz0 hz4) (fun k hk => Nat.le_trans hz0 (Owns.block hO4 k hk))
             have hR5 : ReaderAt w5 y lb (p + k) := hR4.of_block (hg5.block _ hR4.lt (fun e => by have := Owns.block hO4 y e.symm; omega))
             have hT5 := Lib.hid (HTh.out.below hb5 hS)
             have hz5 := Nat.le_trans hz4 hg5.size))
        go_roundw
        case rel => exact ⟨j + 1, p + k, by omega, by omega, by go_num, hR5, by rw [outL_piece]; exact hO5, hz5, hT5, hb5⟩
        case measure => simp [intOf]; omega
    · obtain rfl : j = nl := by omega
      have HBr := HVB.out.below hb (Nat.le_refl _)
      have hR6 : Hid (Bss (wr.alloc (.cells #[.slice ab nb cb] 25)) (.slice (some ⟨wr.heap.size, 0, none⟩) 1 1) [lb]) := Bss.one HBr rfl
      have hT6 := Lib.hid (hT.out.alloc (.cells #[.slice ab nb cb] 25))
      have hb6 := hb.alloc (Nat.le_trans hz0 hbz) (.cells #[.slice ab nb cb] 25)
      have HA6 := Lib.hid (hO.bs.below ((Below.refl _ _).alloc (Nat.le_refl _) (.cells #[.slice ab nb cb] 25)) (Nat.le_refl _))
      have hRd6 : ReaderAt (wr.alloc (.cells #[.slice ab nb cb] 25)) y lb p := World.rowIs.alloc hRd _
      have i1 : ¬ (j : Int) < (j : Int) := by omega
      clear hT hb hO hRd HBr
      go_wp2_with (first
        | (go_at_call 16; refine (shake256_p N _ lb _ hT6.out hR6.out (by omega)).mono ?_; rintro e w7 ⟨v7, rfl, hB7, hb7⟩
           obtain ⟨ax, nx, cx, rfl, ex, q1, q2, hB7'⟩ := hB7.shape
           rw [outL_length] at ex
           subst ex
           have hb8 := hb6.trans (hb7.mono hb6.size)
           have HA8 := Lib.hid ((HA6.out.below hb7 (Nat.le_refl _)).below ((Below.refl _ _).alloc (Nat.le_refl _) (.cells #[.slice ab nb cb] 25)) (Nat.le_refl _))
           have hT8 := Lib.hid ((hT6.out.below hb7 hT6.out.size).alloc (.cells #[.slice ab nb cb] 25))
           have hR8 : Hid (Bss (w7.alloc (.cells #[.slice ab nb cb] 25)) (.slice (some ⟨w7.heap.size, 0, none⟩) 1 1) [lb]) := Bss.one (HVB.out.below hb8 (Nat.le_refl _)) rfl
           have HX8 := Lib.hid (hB7'.below ((Below.refl _ _).alloc (Nat.le_refl _) (.cells #[.slice ab nb cb] 25)) (Nat.le_refl _))
           have hb9 := hb8.alloc hb8.size (.cells #[.slice ab nb cb] 25)
           clear hR6 hT6 hb6 HA6 hB7 hB7' hb7 hb8)
        | (go_at_call 16; refine (shake256_p M _ lb _ hT8.out hR8.out (by omega)).mono ?_; rintro e w10 ⟨v10, rfl, hB10, hb10⟩
           obtain ⟨ay, ny, cy, rfl, ey, q3, q4, hB10'⟩ := hB10.shape
           rw [outL_length] at ey
           subst ey
           have hb11 := hb9.trans (hb10.mono hb9.size)
           have HA11 := Lib.hid (HA8.out.below hb10 (Nat.le_refl _))
           have HX11 := Lib.hid (HX8.out.below hb10 (Nat.le_refl _))
           have hT11 := Lib.hid (hT8.out.below hb10 hT8.out.size)
           have HY11 := Lib.hid hB10'
           clear hR8 hT8 hb9 HA8 HX8 hB10 hB10' hb10))
      have HB : Bs w10.drew _ lb := (HVB.out.below hb11 (Nat.le_refl _)).below (Below.drew (Below.refl w10.heap.size w10)) (Nat.le_refl _)
      have HA : Bs w10.drew _ _ := HA11.out
      have HX : Bs w10.drew _ _ := HX11.out
      have HY : Bs w10.drew _ _ := HY11.out
      have HT : Laid3 w10.drew := hT11.out.below (Below.drew (Below.refl w10.heap.size w10)) hT11.out.size
      have HYN : Bs w10.drew (.slice ay N cy) (outL 136 (closedS 136 31 lb) N) := by rw [← outL_take 136 (closedS 136 31 lb) N M hNM]; exact Bs.take HY hNM
      have B : Below w.heap.size w w10.drew := hb11.drew
      have hpp : p ≤ 65536 := by omega
      clear HA11 HX11 HY11 hT11 hb11
      refine wp_region_lint (.rd 0 (.rd 1 (.rd 2 (.rd 3 (.rd 4 (.wr 5 (.wr 6 (.rd 7 (.rd 8 (.rd 9 (.rd 10 (.rd 11 (.rd 12 (.rd 13 (.rd 14 (.rd 15 (.rd 16 (.rd 17 (.rd 18 (.rd 19 (.rd 20 (.rd 21 (.rd 22 (.rd 23 (.rd 24 (.rd 25 (.rd 26 (.rd 27 (.rd 28 (.rd 29 (.rd 30 (.rd 31 (.rd 32 (.wr 33 (.rd 34 (.rd 35 (.rd 36 (.rd 37 (.rd 38 (.wr 39 (.rd 40 (.rd 41 (.rd 42 (.rd 43 (.wr 44 (.rd 45 (.rd 46 .done))))))))))))))))))))))))))))))))))))))))))))))) (by kernel_rfl) (by kernel_rfl) (by decide) (by kernel_rfl) (fun d _ _ _ _ h => by cases d <;> exact h) ?_
      refine lint_pure 77 (Op.move (Operand.tmp 10)) 25 _ rfl rfl rfl rfl rfl (fun w0 hb0 => by unfold mkOp; go_simp; all_goals (with_reducible rfl)) ?_
      simp only [Act.put, List.setIfInBounds_toArray, List.set_cons_zero, List.set_cons_succ]
      refine lint_conv 78 (Operand.tmp 77) _ _ rfl rfl rfl rfl rfl HA ?_
      simp only [Act.put, List.setIfInBounds_toArray, List.set_cons_zero, List.set_cons_succ]
      refine lint_pure 79 (Op.move (Operand.tmp 10)) 25 _ rfl rfl rfl rfl rfl (fun w0 hb0 => by unfold mkOp; go_simp; all_goals (with_reducible rfl)) ?_
      simp only [Act.put, List.setIfInBounds_toArray, List.set_cons_zero, List.set_cons_succ]
      refine lint_pure 80 (Op.call { callee := Callee.builtin Builtin.len, args := #[Operand.tmp 79], argTypes := #[25] }) 3 _ rfl rfl rfl rfl rfl (fun w0 hb0 => by unfold mkOp; go_simp; all_goals (with_reducible rfl)) ?_
      simp only [Act.put, List.setIfInBounds_toArray, List.set_cons_zero, List.set_cons_succ]
      refine lint_pure 81 (Op.move (Operand.tmp 0)) 25 _ rfl rfl rfl rfl rfl (fun w0 hb0 => by unfold mkOp; go_simp; all_goals (with_reducible rfl)) ?_
      simp only [Act.put, List.setIfInBounds_toArray, List.set_cons_zero, List.set_cons_succ]
      refine stp_rows1 82 (Operand.tmp 81) 22 rfl rfl rfl rfl rfl HB rfl ?_
      intro w82 v82 HR82 b82
      replace HT := Laid3.below HT b82 HT.size
      replace HB := Bs.below HB b82 (Nat.le_refl _)
      replace HX := Bs.below HX b82 (Nat.le_refl _)
      replace HYN := Bs.below HYN b82 (Nat.le_refl _)
      replace HA := Bs.below HA b82 (Nat.le_refl _)
      replace B := B.trans (Below.mono b82 B.size)
      simp only [Act.put, List.setIfInBounds_toArray, List.set_cons_zero, List.set_cons_succ]
      refine stp_fn 83 14 #[Operand.tmp 80, Operand.tmp 82] #[3, 22] _ (shake128_p p v82 lb _ HT HR82 (by omega)) rfl rfl rfl rfl Tryd.func14 (by kernel_rfl) (by kernel_rfl) (by go_simp) ?_
      rintro e w83 ⟨v83, rfl, HS, b83⟩
      replace HT := Laid3.below HT b83 HT.size
      replace HB := Bs.below HB b83 (Nat.le_refl _)
      replace HX := Bs.below HX b83 (Nat.le_refl _)
      replace HYN := Bs.below HYN b83 (Nat.le_refl _)
      replace HA := Bs.below HA b83 (Nat.le_refl _)
      replace B := B.trans (Below.mono b83 B.size)
      refine ⟨_, rfl, b83, ?_⟩
      simp only [Act.put, List.setIfInBounds_toArray, List.set_cons_zero, List.set_cons_succ]
      refine lint_conv 84 (Operand.tmp 83) _ _ rfl rfl rfl rfl rfl HS ?_
      simp only [Act.put, List.setIfInBounds_toArray, List.set_cons_zero, List.set_cons_succ]
      refine lint_pure 85 (Op.binOp BinOp.eql 9 (Operand.tmp 78) (Operand.tmp 84) 9) 4 _ rfl rfl rfl rfl rfl (fun w0 hb0 => by unfold mkOp; go_simp; all_goals (with_reducible rfl)) ?_
      simp only [Act.put, List.setIfInBounds_toArray, List.set_cons_zero, List.set_cons_succ]
      refine lint_pure 86 (Op.move (Operand.tmp 85)) 4 _ rfl rfl rfl rfl rfl (fun w0 hb0 => by unfold mkOp; go_simp; all_goals (with_reducible rfl)) ?_
      simp only [Act.put, List.setIfInBounds_toArray, List.set_cons_zero, List.set_cons_succ]
      refine lint_pure 87 (Op.move (Operand.tmp 14)) 25 _ rfl rfl rfl rfl rfl (fun w0 hb0 => by unfold mkOp; go_simp; all_goals (with_reducible rfl)) ?_
      simp only [Act.put, List.setIfInBounds_toArray, List.set_cons_zero, List.set_cons_succ]
      refine lint_pure 88 (Op.call { callee := Callee.builtin Builtin.len, args := #[Operand.tmp 87], argTypes := #[25] }) 3 _ rfl rfl rfl rfl rfl (fun w0 hb0 => by unfold mkOp; go_simp; all_goals (with_reducible rfl)) ?_
      simp only [Act.put, List.setIfInBounds_toArray, List.set_cons_zero, List.set_cons_succ]
      refine lint_pure 89 (Op.move (Operand.tmp 2)) 3 _ rfl rfl rfl rfl rfl (fun w0 hb0 => by unfold mkOp; go_simp; all_goals (with_reducible rfl)) ?_
      simp only [Act.put, List.setIfInBounds_toArray, List.set_cons_zero, List.set_cons_succ]
      refine lint_pure 90 (Op.binOp BinOp.eql 3 (Operand.tmp 88) (Operand.tmp 89) 3) 4 _ rfl rfl rfl rfl rfl (fun w0 hb0 => by unfold mkOp; go_simp; all_goals (with_reducible rfl)) ?_
      simp only [Act.put, List.setIfInBounds_toArray, List.set_cons_zero, List.set_cons_succ]
      refine lint_pure 91 (Op.pick (Operand.tmp 86) (Operand.tmp 90) (Operand.const (Value.bool false))) 4 _ rfl rfl rfl rfl rfl (fun w0 hb0 => by unfold mkOp; go_simp; all_goals (with_reducible rfl)) ?_
      simp only [Act.put, List.setIfInBounds_toArray, List.set_cons_zero, List.set_cons_succ]
      refine lint_pure 92 (Op.move (Operand.tmp 91)) 4 _ rfl rfl rfl rfl rfl (fun w0 hb0 => by unfold mkOp; go_simp; all_goals (with_reducible rfl)) ?_
      simp only [Act.put, List.setIfInBounds_toArray, List.set_cons_zero, List.set_cons_succ]
      refine lint_pure 93 (Op.move (Operand.tmp 15)) 25 _ rfl rfl rfl rfl rfl (fun w0 hb0 => by unfold mkOp; go_simp; all_goals (with_reducible rfl)) ?_
      simp only [Act.put, List.setIfInBounds_toArray, List.set_cons_zero, List.set_cons_succ]
      refine lint_pure 94 (Op.call { callee := Callee.builtin Builtin.len, args := #[Operand.tmp 93], argTypes := #[25] }) 3 _ rfl rfl rfl rfl rfl (fun w0 hb0 => by unfold mkOp; go_simp; all_goals (with_reducible rfl)) ?_
      simp only [Act.put, List.setIfInBounds_toArray, List.set_cons_zero, List.set_cons_succ]
      refine lint_pure 95 (Op.move (Operand.tmp 3)) 3 _ rfl rfl rfl rfl rfl (fun w0 hb0 => by unfold mkOp; go_simp; all_goals (with_reducible rfl)) ?_
      simp only [Act.put, List.setIfInBounds_toArray, List.set_cons_zero, List.set_cons_succ]
      refine lint_pure 96 (Op.binOp BinOp.eql 3 (Operand.tmp 94) (Operand.tmp 95) 3) 4 _ rfl rfl rfl rfl rfl (fun w0 hb0 => by unfold mkOp; go_simp; all_goals (with_reducible rfl)) ?_
      simp only [Act.put, List.setIfInBounds_toArray, List.set_cons_zero, List.set_cons_succ]
      refine lint_pure 97 (Op.pick (Operand.tmp 92) (Operand.tmp 96) (Operand.const (Value.bool false))) 4 _ rfl rfl rfl rfl rfl (fun w0 hb0 => by unfold mkOp; go_simp; all_goals (with_reducible rfl)) ?_
      simp only [Act.put, List.setIfInBounds_toArray, List.set_cons_zero, List.set_cons_succ]
      refine lint_pure 98 (Op.move (Operand.tmp 97)) 4 _ rfl rfl rfl rfl rfl (fun w0 hb0 => by unfold mkOp; go_simp; all_goals (with_reducible rfl)) ?_
      simp only [Act.put, List.setIfInBounds_toArray, List.set_cons_zero, List.set_cons_succ]
      refine lint_pure 99 (Op.move (Operand.tmp 15)) 25 _ rfl rfl rfl rfl rfl (fun w0 hb0 => by unfold mkOp; go_simp; all_goals (with_reducible rfl)) ?_
      simp only [Act.put, List.setIfInBounds_toArray, List.set_cons_zero, List.set_cons_succ]
      refine lint_pure 100 (Op.move (Operand.tmp 2)) 3 _ rfl rfl rfl rfl rfl (fun w0 hb0 => by unfold mkOp; go_simp; all_goals (with_reducible rfl)) ?_
      simp only [Act.put, List.setIfInBounds_toArray, List.set_cons_zero, List.set_cons_succ]
      refine lint_pure 101 (Op.slice 25 (Operand.tmp 99) none (some (Operand.tmp 100)) none) 25 (.slice ay N cy) rfl rfl rfl rfl rfl (fun w0 hb0 => by exact exec_sliceTo _ _ _ _ rfl rfl rfl (by omega)) ?_
      simp only [Act.put, List.setIfInBounds_toArray, List.set_cons_zero, List.set_cons_succ]
      refine lint_conv 102 (Operand.tmp 101) _ _ rfl rfl rfl rfl rfl HYN ?_
      simp only [Act.put, List.setIfInBounds_toArray, List.set_cons_zero, List.set_cons_succ]
      refine lint_pure 103 (Op.move (Operand.tmp 14)) 25 _ rfl rfl rfl rfl rfl (fun w0 hb0 => by unfold mkOp; go_simp; all_goals (with_reducible rfl)) ?_
      simp only [Act.put, List.setIfInBounds_toArray, List.set_cons_zero, List.set_cons_succ]
      refine lint_conv 104 (Operand.tmp 103) _ _ rfl rfl rfl rfl rfl HX ?_
      simp only [Act.put, List.setIfInBounds_toArray, List.set_cons_zero, List.set_cons_succ]
      refine lint_pure 105 (Op.binOp BinOp.eql 9 (Operand.tmp 102) (Operand.tmp 104) 9) 4 _ rfl rfl rfl rfl rfl (fun w0 hb0 => by unfold mkOp; go_simp; all_goals (with_reducible rfl)) ?_
      simp only [Act.put, List.setIfInBounds_toArray, List.set_cons_zero, List.set_cons_succ]
      refine lint_pure 106 (Op.pick (Operand.tmp 98) (Operand.tmp 105) (Operand.const (Value.bool false))) 4 _ rfl rfl rfl rfl rfl (fun w0 hb0 => by unfold mkOp; go_simp; all_goals (with_reducible rfl)) ?_
      simp only [Act.put, List.setIfInBounds_toArray, List.set_cons_zero, List.set_cons_succ]
      refine lint_pure 107 (Op.move (Operand.tmp 106)) 4 _ rfl rfl rfl rfl rfl (fun w0 hb0 => by unfold mkOp; go_simp; all_goals (with_reducible rfl)) ?_
      simp only [Act.put, List.setIfInBounds_toArray, List.set_cons_zero, List.set_cons_succ]
      refine lint_pure 108 (Op.move (Operand.tmp 16)) 39 _ rfl rfl rfl rfl rfl (fun w0 hb0 => by unfold mkOp; go_simp; all_goals (with_reducible rfl)) ?_
      simp only [Act.put, List.setIfInBounds_toArray, List.set_cons_zero, List.set_cons_succ]
      refine lint_pure 109 (Op.move (Operand.tmp 2)) 3 _ rfl rfl rfl rfl rfl (fun w0 hb0 => by unfold mkOp; go_simp; all_goals (with_reducible rfl)) ?_
      simp only [Act.put, List.setIfInBounds_toArray, List.set_cons_zero, List.set_cons_succ]
      refine stp_fn 110 21 #[Operand.tmp 108, Operand.tmp 109] #[39, 3] _ (rread_nil (N : Int) _) rfl rfl rfl rfl Tryd.func21 (by kernel_rfl) (by kernel_rfl) (by go_simp) ?_
      rintro e w110 ⟨rfl, rfl⟩
      refine ⟨_, rfl, Below.refl _ _, ?_⟩
      simp only [Act.put, List.setIfInBounds_toArray, List.set_cons_zero, List.set_cons_succ]
      refine lint_pure 111 (Op.call { callee := Callee.builtin Builtin.len, args := #[Operand.tmp 110], argTypes := #[25] }) 3 _ rfl rfl rfl rfl rfl (fun w0 hb0 => by unfold mkOp; go_simp; all_goals (with_reducible rfl)) ?_
      simp only [Act.put, List.setIfInBounds_toArray, List.set_cons_zero, List.set_cons_succ]
      refine lint_pure 112 (Op.binOp BinOp.eql 3 (Operand.tmp 111) (Operand.const (Value.int IntKind.i64 0)) 3) 4 _ rfl rfl rfl rfl rfl (fun w0 hb0 => by unfold mkOp; go_simp; all_goals (with_reducible rfl)) ?_
      simp only [Act.put, List.setIfInBounds_toArray, List.set_cons_zero, List.set_cons_succ]
      refine lint_pure 113 (Op.pick (Operand.tmp 107) (Operand.tmp 112) (Operand.const (Value.bool false))) 4 _ rfl rfl rfl rfl rfl (fun w0 hb0 => by unfold mkOp; go_simp; all_goals (with_reducible rfl)) ?_
      simp only [Act.put, List.setIfInBounds_toArray, List.set_cons_zero, List.set_cons_succ]
      refine lint_pure 114 (Op.move (Operand.tmp 113)) 4 _ rfl rfl rfl rfl rfl (fun w0 hb0 => by unfold mkOp; go_simp; all_goals (with_reducible rfl)) ?_
      simp only [Act.put, List.setIfInBounds_toArray, List.set_cons_zero, List.set_cons_succ]
      refine lint_pure 115 (Op.move (Operand.tmp 9)) 39 _ rfl rfl rfl rfl rfl (fun w0 hb0 => by unfold mkOp; go_simp; all_goals (with_reducible rfl)) ?_
      simp only [Act.put, List.setIfInBounds_toArray, List.set_cons_zero, List.set_cons_succ]
      refine stp_fn 116 21 #[Operand.tmp 115, Operand.const (Value.int IntKind.i64 (-1))] #[39, 3] _ (rread_out y (-1) _ (by omega)) rfl rfl rfl rfl Tryd.func21 (by kernel_rfl) (by kernel_rfl) (by go_simp) ?_
      rintro e w116 ⟨rfl, rfl⟩
      refine ⟨_, rfl, Below.refl _ _, ?_⟩
      simp only [Act.put, List.setIfInBounds_toArray, List.set_cons_zero, List.set_cons_succ]
      refine lint_pure 117 (Op.call { callee := Callee.builtin Builtin.len, args := #[Operand.tmp 116], argTypes := #[25] }) 3 _ rfl rfl rfl rfl rfl (fun w0 hb0 => by unfold mkOp; go_simp; all_goals (with_reducible rfl)) ?_
      simp only [Act.put, List.setIfInBounds_toArray, List.set_cons_zero, List.set_cons_succ]
      refine lint_pure 118 (Op.binOp BinOp.eql 3 (Operand.tmp 117) (Operand.const (Value.int IntKind.i64 0)) 3) 4 _ rfl rfl rfl rfl rfl (fun w0 hb0 => by unfold mkOp; go_simp; all_goals (with_reducible rfl)) ?_
      simp only [Act.put, List.setIfInBounds_toArray, List.set_cons_zero, List.set_cons_succ]
      refine lint_pure 119 (Op.pick (Operand.tmp 114) (Operand.tmp 118) (Operand.const (Value.bool false))) 4 _ rfl rfl rfl rfl rfl (fun w0 hb0 => by unfold mkOp; go_simp; all_goals (with_reducible rfl)) ?_
      simp only [Act.put, List.setIfInBounds_toArray, List.set_cons_zero, List.set_cons_succ]
      refine lint_pure 120 (Op.move (Operand.tmp 119)) 4 _ rfl rfl rfl rfl rfl (fun w0 hb0 => by unfold mkOp; go_simp; all_goals (with_reducible rfl)) ?_
      simp only [Act.put, List.setIfInBounds_toArray, List.set_cons_zero, List.set_cons_succ]
      refine stp_fn 121 9 #[] #[] _ (awake3_any _ HT) rfl rfl rfl rfl Tryd.func9 (by kernel_rfl) (by kernel_rfl) (by go_simp) ?_
      rintro e w121 ⟨rfl, b121⟩
      replace B := B.trans (Below.mono b121 B.size)
      refine ⟨_, rfl, b121, ?_⟩
      simp only [Act.put, List.setIfInBounds_toArray, List.set_cons_zero, List.set_cons_succ]
      refine lint_pure 122 (Op.pick (Operand.tmp 120) (Operand.tmp 121) (Operand.const (Value.bool false))) 4 _ rfl rfl rfl rfl rfl (fun w0 hb0 => by unfold mkOp; go_simp; all_goals (with_reducible rfl)) ?_
      simp only [Act.put, List.setIfInBounds_toArray, List.set_cons_zero, List.set_cons_succ]
      refine lint_pure 8 (Op.assign (Operand.tmp 122)) 4 _ rfl rfl rfl rfl rfl (fun w0 hb0 => by unfold mkOp; go_simp; all_goals (with_reducible rfl)) ?_
      simp only [Act.put, List.setIfInBounds_toArray, List.set_cons_zero, List.set_cons_succ]
      refine lint_end ?_
      go_wp2
      go_ret
      exact ⟨rfl, B⟩
end Go.Proofs.YtmfogngfdgpahaaDoor
