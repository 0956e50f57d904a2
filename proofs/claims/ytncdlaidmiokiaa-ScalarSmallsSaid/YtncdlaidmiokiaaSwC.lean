/- The program's numbers mod L: products of words. -/
import Derived.Test.YtncdlaidmiokiaaSwB
namespace Go.Proofs.Ytncdlaidmiokiaa
open Go.RowKit Go.Deep
set_option linter.unusedSimpArgs false
set_option linter.unusedVariables false

theorem mulW_outN (A C : Nat) (f : Nat → Nat) (i c n : Nat) (hi : i + n < 8) (hC : C < 18446744073709551616 ^ n) (h : valW f 8 + c * 18446744073709551616 ^ (i + n) = mulW A C i n) (h0 : f (i + n) = 0) : valW (setAt f (i + n) c) 8 = mulW A C (i + 1) 0 := by
  have h1 := valW_setAt f (i + n) c 8 hi
  rw [h0, Nat.zero_mul, Nat.add_zero] at h1
  rw [h1, h]
  unfold mulW
  rw [valW_all _ _ hC]
  show _ = (valW (wd A) i + wd A i * 18446744073709551616 ^ i) * C + _ * 0
  rw [Nat.add_mul, Nat.mul_zero, Nat.add_zero]
theorem mulW_allN (A C n : Nat) (hA : A < 18446744073709551616 ^ n) : mulW A C n 0 = A * C := by
  unfold mulW
  rw [valW_all _ _ hA]
  show A * C + _ * 0 = _
  rw [Nat.mul_zero, Nat.add_zero]

set_option maxHeartbeats 4000000 in
set_option maxRecDepth 10000 in
theorem times_any (A C na nb ga gb : Nat) (ta tb : TypeId) (w : World) (hn : na + nb ≤ 8) (hA : A < 18446744073709551616 ^ na) (hC : C < 18446744073709551616 ^ nb) (ra : w.rowIs ga ta na (ewF A)) (rb : w.rowIs gb tb nb (ewF C)) : Calls Try.prog 35 #[.slice (some ⟨ga, 0, none⟩) na na, .slice (some ⟨gb, 0, none⟩) nb nb] w fun e w' => e = .returned (.agg (arrOf 8 (ewF (A * C)))) ∧ Below w.heap.size w w' := by
  have Bw0 := Below.refl w.heap.size w
  have HGS : Hid (∀ wq : World, Below w.heap.size w wq → w.heap.size ≤ wq.heap.size) := Lib.hid fun wq h => h.size
  have HALL := Lib.hid (mulW_allN A C na hA)
  have HC := Lib.hid hC
  have Hn := Lib.hid hn
  have hna : na < 9 := by omega
  have hnb : nb < 9 := by omega
  have HLA := Lib.hid ra.lt
  have HLB := Lib.hid rb.lt
  clear hA hC
  go_enter Try.func35, Try.ntmps35
  go_wp2_with (first
    | (have hgo := Bw0; clear hgo
       refine wpList_alloc_row rfl 55 rfl 8 (u64f fun _ => 0) zeroW8 ?_
       intro b_t4 w1 lk r_t4 kk
       have l_t4 := Nat.le_trans (HGS.out _ Bw0) lk
       have Bw1 := Bw0.trans (kk.mono (HGS.out _ Bw0))
       replace ra := World.rowIs.of_block ra (kk.block _ HLA.out)
       replace rb := World.rowIs.of_block rb (kk.block _ HLB.out)
       have nat4 : ga ≠ b_t4 := Nat.ne_of_lt (Nat.lt_of_lt_of_le HLA.out lk)
       have nbt4 : gb ≠ b_t4 := Nat.ne_of_lt (Nat.lt_of_lt_of_le HLB.out lk)
       clear Bw0 kk lk))
  go_loopw [17] (fun ii wr => ∃ (i : Nat) (f : Nat → Nat), i ≤ na ∧ ii = .int .i64 (i : Int) ∧ wr.rowIs b_t4 55 8 (u64f f) ∧ Hid (valW f 8 = mulW A C i 0) ∧ Hid (∀ j, f j < 18446744073709551616) ∧ Hid (∀ j, i + nb ≤ j → f j = 0) ∧ wr.rowIs ga ta na (ewF A) ∧ wr.rowIs gb tb nb (ewF C) ∧ Below w.heap.size w wr) (fun ii _ => na - (intOf ii).toNat)
  case atStart => exact ⟨0, fun _ => 0, Nat.zero_le _, rfl, r_t4, Lib.hid (by rw [mulW_zero]; decide), Lib.hid (fun _ => (by decide : (0 : Nat) < 18446744073709551616)), Lib.hid (fun j _ => rfl), ra, rb, Bw1⟩
  case round =>
  clear r_t4 ra rb Bw1
  obtain ⟨i, f, hi, rfl, r_t4, HV, HBD, HZ, ra, rb, B⟩ := hrel
  by_cases hlt : i < na
  · have hiI : 0 ≤ (i : Int) ∧ (i : Int) < (na : Int) := by omega
    obtain ⟨x, hx⟩ := nat_var (wd A i)
    have hcx : wr.cell? ⟨ga, i, none⟩ = some (.int .u64 (x : Int)) := by rw [hx]; exact ra.cell hlt
    have HXL : Hid (x < 18446744073709551616) := Lib.hid (by rw [hx]; exact wd_lt A i)
    have HX := Lib.hid hx.symm
    clear hx
    go_wp2
    go_loopw [7, 24] (fun cv kk wr => ∃ (k c : Nat) (f : Nat → Nat), k ≤ nb ∧ kk = .int .i64 (k : Int) ∧ cv = .int .u64 (c : Int) ∧ Hid (c < 18446744073709551616) ∧ wr.rowIs b_t4 55 8 (u64f f) ∧ Hid (valW f 8 + c * 18446744073709551616 ^ (i + k) = mulW A C i k) ∧ Hid (∀ j, f j < 18446744073709551616) ∧ Hid (∀ j, i + nb ≤ j → f j = 0) ∧ wr.rowIs ga ta na (ewF A) ∧ wr.rowIs gb tb nb (ewF C) ∧ Below w.heap.size w wr) (fun _ kk _ => nb - (intOf kk).toNat)
    case atStart => exact ⟨0, 0, f, Nat.zero_le _, rfl, rfl, Lib.hid (by decide), r_t4, Lib.hid (by rw [Nat.zero_mul, Nat.add_zero]; exact HV.out), HBD, HZ, ra, rb, B⟩
    case round =>
      clear r_t4 HV HBD HZ ra rb B hcx
      obtain ⟨k, c, f, hk, rfl, rfl, HCL, r_t4, HV, HBD, HZ, ra, rb, B⟩ := hrel
      by_cases hlk : k < nb
      · have hkI : 0 ≤ (k : Int) ∧ (k : Int) < (nb : Int) := by omega
        have hik : i + k < 8 := by omega
        obtain ⟨y, hy⟩ := nat_var (wd C k)
        have hcy : wr.cell? ⟨gb, k, none⟩ = some (.int .u64 (y : Int)) := by rw [hy]; exact rb.cell hlk
        have hyl : y < 18446744073709551616 := by rw [hy]; exact wd_lt C k
        have hcW : wr.cell? ⟨b_t4, i + k, none⟩ = some (.int .u64 ((f (i + k) : Nat) : Int)) := r_t4.cell hik
        have hfr := r_t4.frozen (i + k)
        have hm := mul64_any x y HXL.out hyl
        have hall := product_le x y (f (i + k)) c HXL.out hyl (HBD.out _) HCL.out
        have hset := fun lo : Nat => row_set r_t4 (i + k) lo (setAt f (i + k) lo) (fun _ _ => rfl)
        have hin := fun lo hi => mulW_in A C f i k c lo hi hik HV.out
        rw [HX.out, ← hy] at hin
        have hw1 : IntKind.i64.wrap ((i : Int) + (k : Int)) = ((i + k : Nat) : Int) := by rw [IntWalk.i64_in _ (by omega)]; omega
        have hikI : 0 ≤ ((i + k : Nat) : Int) ∧ ((i + k : Nat) : Int) < 8 := by omega
        have hbd := fun lo (h : lo < 18446744073709551616) => setAt_lt f (i + k) lo HBD.out h
        have hz := fun lo => setAt_zero f (i + k) lo (i + nb) (i + nb) HZ.out (Nat.le_refl _) (by omega)
        have hul := HBD.out (i + k)
        have hcl := HCL.out
        generalize f (i + k) = u at *
        generalize x * y = xy at *
        obtain ⟨h0, hh0⟩ := nat_var (xy / 18446744073709551616)
        obtain ⟨l0, hl0⟩ := nat_var (xy % 18446744073709551616)
        rw [← hh0, ← hl0] at hm
        obtain ⟨l1, hl1⟩ := nat_var ((l0 + c) % 18446744073709551616)
        obtain ⟨c1, hc1⟩ := nat_var ((l0 + c) / 18446744073709551616)
        obtain ⟨l2, hl2⟩ := nat_var ((l1 + u) % 18446744073709551616)
        obtain ⟨c2, hc2⟩ := nat_var ((l1 + u) / 18446744073709551616)
        have r1 := add64_run l0 c 0 (by omega)
        have r2 := add64_run l1 u 0 (by omega)
        rw [Nat.add_zero, ← hl1, ← hc1, show ((0 : Nat) : Int) = 0 from rfl] at r1
        rw [Nat.add_zero, ← hl2, ← hc2, show ((0 : Nat) : Int) = 0 from rfl] at r2
        have w1 : IntKind.u64.wrap ((h0 : Int) + (c1 : Int)) = ((h0 + c1 : Nat) : Int) := by rw [IntWalk.u64_in _ ⟨by omega, by omega⟩]; omega
        have w2 : IntKind.u64.wrap (((h0 + c1 : Nat) : Int) + (c2 : Int)) = ((h0 + c1 + c2 : Nat) : Int) := by rw [IntWalk.u64_in _ ⟨by omega, by omega⟩]; omega
        have hHI : h0 + c1 + c2 < 18446744073709551616 := by omega
        have hLO : l2 < 18446744073709551616 := by omega
        have HIN := Lib.hid (hin l2 (h0 + c1 + c2) (by omega))
        have HSET := Lib.hid (hset l2)
        have HBD2 := Lib.hid (hbd l2 hLO)
        have HZ2 := Lib.hid (hz l2)
        generalize h0 + c1 + c2 = hi2 at *
        generalize h0 + c1 = hi1 at *
        have HHI := Lib.hid hHI
        have HM := Lib.hid hm
        generalize setAt f (i + k) l2 = fn at *
        generalize hik2 : i + k = ik at *
        clear hin hset hbd hz hm hh0 hl0 hl1 hc1 hl2 hc2 hHI hLO hall hyl hy hik hik2 HV HBD HZ hul hcl
        go_wp2_with (first
          | (go_at_call 42; refine (HM.out _).mono ?_; rintro e w' ⟨rfl, rfl⟩)
          | simp only [r1]
          | simp only [r2])
        go_roundw
        case rel => exact ⟨k + 1, hi2, fn, by omega, by go_num, rfl, HHI, HSET.out, HIN, HBD2, HZ2, ra.setOther (show ga ≠ (⟨b_t4, ik, none⟩ : Addr).block from nat4) _, rb.setOther (show gb ≠ (⟨b_t4, ik, none⟩ : Addr).block from nbt4) _, B.setCell (show w.heap.size ≤ (⟨b_t4, ik, none⟩ : Addr).block from l_t4) _⟩
        case measure => simp [intOf]; omega
      · obtain rfl : k = nb := by omega
        have hik : i + k < 8 := by omega
        have hcW : wr.cell? ⟨b_t4, i + k, none⟩ = some (.int .u64 ((f (i + k) : Nat) : Int)) := r_t4.cell hik
        have hfr := r_t4.frozen (i + k)
        have HSET := Lib.hid (row_set r_t4 (i + k) c (setAt f (i + k) c) (fun _ _ => rfl))
        have HOUT := Lib.hid (mulW_outN A C f i c k hik HC.out HV.out (HZ.out _ (Nat.le_refl _)))
        have HBD2 := Lib.hid (setAt_lt f (i + k) c HBD.out HCL.out)
        have HZ2 := Lib.hid (setAt_zero f (i + k) c (i + k) (i + 1 + k) HZ.out (by omega) (by omega))
        have hw1 : IntKind.i64.wrap ((i : Int) + (k : Int)) = ((i + k : Nat) : Int) := by rw [IntWalk.i64_in _ (by omega)]; omega
        have hikI : 0 ≤ ((i + k : Nat) : Int) ∧ ((i + k : Nat) : Int) < 8 := by omega
        generalize setAt f (i + k) c = fn at *
        generalize f (i + k) = u at *
        generalize hik2 : i + k = ik at *
        clear HV HBD HZ
        go_wp2
        go_roundw
        case rel => exact ⟨i + 1, fn, by omega, by go_num, HSET.out, HOUT, HBD2, HZ2, ra.setOther (show ga ≠ (⟨b_t4, ik, none⟩ : Addr).block from nat4) _, rb.setOther (show gb ≠ (⟨b_t4, ik, none⟩ : Addr).block from nbt4) _, B.setCell (show w.heap.size ≤ (⟨b_t4, ik, none⟩ : Addr).block from l_t4) _⟩
        case measure => simp [intOf]; omega
  · obtain rfl : i = na := by omega
    have HVAL : Hid (A * C = valW f 8) := Lib.hid (HV.out.trans HALL.out).symm
    replace r_t4 : wr.rowIs b_t4 55 8 (ewF (A * C)) := r_t4.congr fun j hj => by unfold ewF u64f; rw [HVAL.out, wd_valW f HBD.out j 8 hj]
    have Bw0 := B
    clear B HV HBD HZ ra rb
    go_wp2_with (first
      | (have hgo := Bw0; clear hgo
         refine wpList_load_as rfl 55 (.tmp 4) rfl 8 (ewF (A * C)) arrW8 r_t4 rfl (by omega) (fun i hi => by rw [Nat.zero_add]) ?_
         have Bw1 := Bw0
         clear Bw0)
      | (have hgo := Bw1; clear hgo
         refine wpList_store_as rfl 55 (.tmp 4) (.tmp 69) rfl 8 (ewF (A * C)) arrW8 r_t4 rfl rfl (by omega) (fun _ _ => rfl) (fun i hi => putN_whole hi) ?_
         intro w502 q gk
         replace r_t4 := q
         have Bw2 := Bw1.grown gk (HGS.out _ Bw1) (by intro k hk; cases hk; exact l_t4)
         clear Bw1 gk q))
    exact ret_cell_as _ rfl arrW8 r_t4 rfl (by omega) (fun _ _ => rfl) rfl ⟨rfl, Bw2⟩
end Go.Proofs.Ytncdlaidmiokiaa
