/- Texts joined: what they are for stands ahead of each. -/
import Derived.Test.YtnpifjimmeehdaaMM2
set_option linter.unusedSimpArgs false
set_option linter.unusedVariables false

/- The program's polynomials: the product of two transforms. -/
namespace Go.Proofs.Ytnpifjimmeehdaa
open Go.RowKit Go.Deep
set_option linter.unusedSimpArgs false
set_option linter.unusedVariables false

theorem mul_even (a b c d z : Nat) : (a * b % 3329 + c * d % 3329 * z % 3329) % 3329 = (a % 3329 * (b % 3329) + c % 3329 * (d % 3329) % 3329 * z) % 3329 := by
  rw [← Nat.add_mod, Nat.add_mod (a % 3329 * (b % 3329)), ← Nat.mul_mod, ← Nat.mul_mod c, ← Nat.add_mod]
theorem mul_odd (a b c d : Nat) : (a * b % 3329 + c * d % 3329) % 3329 = (a % 3329 * (b % 3329) + c % 3329 * (d % 3329)) % 3329 := by
  rw [← Nat.add_mod, Nat.add_mod (a % 3329 * (b % 3329)), ← Nat.mul_mod, ← Nat.mul_mod c, ← Nat.add_mod]
set_option maxHeartbeats 4000000 in
set_option maxRecDepth 20000 in
theorem rMul_any (f g : Nat → Nat) (w : World) (hf : ∀ i, f i < 65536) (hg : ∀ i, g i < 65536) : Calls Try.prog 22 #[.agg (arrOf 256 (pyF f)), .agg (arrOf 256 (pyF g))] w fun e w' => e = .returned (.agg (arrOf 256 (pyF (mulN f g)))) ∧ Below w.heap.size w w' := by
  have Bw0 := Below.refl w.heap.size w
  have HGS : Hid (∀ wq : World, Below w.heap.size w wq → w.heap.size ≤ wq.heap.size) := Lib.hid fun wq h => h.size
  have Hf := Lib.hid hf
  have Hg := Lib.hid hg
  clear hf hg
  go_enter Try.func22, Try.ntmps22
  go_wp2_with (first
    | (have hgo := Bw0; clear hgo
       refine wpList_box_row rfl 26 (.tmp 0) rfl 256 (pyF f) rfl ?_
       intro b_t2 w1 lk r_t2 kk
       have l_t2 := zrl HGS Bw0 lk
       have Bw1 := zbt HGS Bw0 kk
       clear Bw0 kk lk)
    | (have hgo := Bw1; clear hgo
       refine wpList_box_row rfl 26 (.tmp 1) rfl 256 (pyF g) rfl ?_
       intro b_t3 w2 lk r_t3 kk
       have n_t2_t3 := zrn r_t2 lk
       have l_t3 := zrl HGS Bw1 lk
       replace r_t2 := zrb r_t2 kk
       have Bw2 := zbt HGS Bw1 kk
       clear Bw1 kk lk)
    | (have hgo := Bw2; clear hgo
       refine wpList_alloc_row rfl 26 rfl 256 (pyF fun _ => 0) zeroP ?_
       intro b_t4 w3 lk r_t4 kk
       have n_t2_t4 := zrn r_t2 lk
       have n_t3_t4 := zrn r_t3 lk
       have l_t4 := zrl HGS Bw2 lk
       replace r_t2 := zrb r_t2 kk
       replace r_t3 := zrb r_t3 kk
       have Bw3 := zbt HGS Bw2 kk
       clear Bw2 kk lk)
    | (have hgo := Bw3; clear hgo
       go_at_call 38
       refine (powers_any _).mono ?_
       rintro e w4 ⟨rfl, kk⟩
       replace r_t2 := zrb r_t2 kk
       replace r_t3 := zrb r_t3 kk
       replace r_t4 := zrb r_t4 kk
       have Bw4 := zbt HGS Bw3 kk
       clear Bw3 kk)
    | (have hgo := Bw4; clear hgo
       refine wpList_alloc_row rfl 25 rfl 256 (pyF fun _ => 0) zeroW ?_
       intro b_t5 w5 lk r_t5 kk
       have n_t2_t5 := zrn r_t2 lk
       have n_t3_t5 := zrn r_t3 lk
       have n_t4_t5 := zrn r_t4 lk
       have l_t5 := zrl HGS Bw4 lk
       replace r_t2 := zrb r_t2 kk
       replace r_t3 := zrb r_t3 kk
       replace r_t4 := zrb r_t4 kk
       have Bw5 := zbt HGS Bw4 kk
       clear Bw4 kk lk)
    | (have hgo := Bw5; clear hgo
       refine wpList_store_as rfl 25 (.tmp 5) (.tmp 9) rfl 256 (pyF (fun k => 17 ^ k % 3329)) arrW r_t5 rfl rfl (by omega) (fun _ _ => rfl) (fun i hi => putN_whole hi) ?_
       intro w6 q gk
       replace r_t2 := gb_rowIs r_t2 gk n_t2_t5
       replace r_t3 := gb_rowIs r_t3 gk n_t3_t5
       replace r_t4 := gb_rowIs r_t4 gk n_t4_t5
       replace r_t5 := q
       have Bw6 := zbg HGS Bw5 gk l_t5
       clear Bw5 gk q)
    | (have hgo := Bw6; clear hgo
       refine wpList_alloc_row rfl 26 rfl 256 (pyF fun _ => 0) zeroP ?_
       intro b_t6 w7 lk r_t6 kk
       have n_t2_t6 := zrn r_t2 lk
       have n_t3_t6 := zrn r_t3 lk
       have n_t4_t6 := zrn r_t4 lk
       have n_t5_t6 := zrn r_t5 lk
       have l_t6 := zrl HGS Bw6 lk
       replace r_t2 := zrb r_t2 kk
       replace r_t3 := zrb r_t3 kk
       replace r_t4 := zrb r_t4 kk
       replace r_t5 := zrb r_t5 kk
       have Bw7 := zbt HGS Bw6 kk
       clear Bw6 kk lk))
  go_loopw [7] (fun ii wr => ∃ h j : Nat, h ≤ 128 ∧ Hid (j = 2 * h) ∧ ii = .int .i64 (j : Int) ∧ wr.rowIs b_t2 26 256 (pyF f) ∧ wr.rowIs b_t3 26 256 (pyF g) ∧ wr.rowIs b_t4 26 256 (pyF fun _ => 0) ∧ wr.rowIs b_t5 25 256 (pyF fun k => 17 ^ k % 3329) ∧ wr.rowIs b_t6 26 256 (pyF fun k => if k < j then mulN f g k else 0) ∧ Below w.heap.size w wr) (fun ii _ => 256 - (intOf ii).toNat)
  case atStart => exact ⟨0, 0, Nat.zero_le _, Lib.hid rfl, rfl, r_t2, r_t3, r_t4, r_t5, pyF_congr r_t6 (fun k _ => (if_neg (by omega)).symm), Bw7⟩
  case round =>
    clear r_t2 r_t3 r_t4 r_t5 r_t6 Bw7
    obtain ⟨h, j, hh, HJH, rfl, r_t2, r_t3, r_t4, r_t5, r_t6, Bw⟩ := hrel
    by_cases hlt : h < 128
    · have hj := HJH.out
      have hjI2 : (j : Int) < 256 := by omega
      obtain ⟨j1, hj1⟩ := nat_var (j + 1)
      obtain ⟨j2, hj2⟩ := nat_var (j + 2)
      have hwj1 : IntKind.i64.wrap ((j : Int) + 1) = (j1 : Int) := by rw [IntWalk.i64_in _ (by omega)]; omega
      have hwj2 : IntKind.i64.wrap ((j : Int) + 2) = (j2 : Int) := by rw [IntWalk.i64_in _ (by omega)]; omega
      have hq1 : IntKind.i64.wrap ((j : Int).tdiv 2) = (h : Int) := by rw [Int.tdiv_eq_ediv_of_nonneg (by omega), IntWalk.i64_in _ (by omega)]; omega
      have hq2 : IntKind.i64.wrap ((j : Int) / 2) = (h : Int) := by rw [IntWalk.i64_in _ (by omega)]; omega
      obtain ⟨e0, he0⟩ := nat_var (rev7 h)
      obtain ⟨e2, he2⟩ := nat_var (2 * e0)
      obtain ⟨e1, he1⟩ := nat_var (e2 + 1)
      have he0l : e0 < 128 := by rw [he0]; exact rev7_lt h
      have hwe2 : IntKind.i64.wrap (2 * (e0 : Int)) = (e2 : Int) := by rw [IntWalk.i64_in _ (by omega)]; omega
      have hwe1 : IntKind.i64.wrap ((e2 : Int) + 1) = (e1 : Int) := by rw [IntWalk.i64_in _ (by omega)]; omega
      have he1I : 0 ≤ (e1 : Int) ∧ (e1 : Int) < 256 := by omega
      have HE1 : Hid (e1 < 256) := Lib.hid (by omega)
      obtain ⟨z, hz⟩ := nat_var (17 ^ e1 % 3329)
      have hzl : z < 65536 := by rw [hz]; exact Nat.lt_trans (Nat.mod_lt _ (by decide)) (by decide)
      have HRV := Lib.hid fun w => turned_any h e0 w hlt he0
      have HZZ : Hid ((fun k => 17 ^ k % 3329) e1 = z) := Lib.hid hz.symm
      obtain ⟨x0, hx0⟩ := nat_var (f j)
      obtain ⟨x1, hx1⟩ := nat_var (f j1)
      obtain ⟨y0, hy0⟩ := nat_var (g j)
      obtain ⟨y1, hy1⟩ := nat_var (g j1)
      have hx0l : x0 < 65536 := by rw [hx0]; exact Hf.out j
      have hx1l : x1 < 65536 := by rw [hx1]; exact Hf.out j1
      have hy0l : y0 < 65536 := by rw [hy0]; exact Hg.out j
      have hy1l : y1 < 65536 := by rw [hy1]; exact Hg.out j1
      obtain ⟨p, hp⟩ := nat_var (x0 * y0 % 3329)
      have hpl : p < 65536 := by omega
      have HC1 := Lib.hid fun w => rprod_any x0 y0 p w hx0l hy0l hp
      obtain ⟨q, hq⟩ := nat_var (x1 * y1 % 3329)
      have hql : q < 65536 := by omega
      have HC2 := Lib.hid fun w => rprod_any x1 y1 q w hx1l hy1l hq
      obtain ⟨s, hs⟩ := nat_var (q * z % 3329)
      have hsl : s < 65536 := by omega
      have HC3 := Lib.hid fun w => rprod_any q z s w hql hzl hs
      obtain ⟨u, hu⟩ := nat_var ((p + s) % 3329)
      have HC4 := Lib.hid fun w => rsum_any p s u w hpl hsl hu
      obtain ⟨p2, hp2⟩ := nat_var (x0 * y1 % 3329)
      have hp2l : p2 < 65536 := by omega
      have HC5 := Lib.hid fun w => rprod_any x0 y1 p2 w hx0l hy1l hp2
      obtain ⟨q2, hq2⟩ := nat_var (x1 * y0 % 3329)
      have hq2l : q2 < 65536 := by omega
      have HC6 := Lib.hid fun w => rprod_any x1 y0 q2 w hx1l hy0l hq2
      obtain ⟨u2, hu2⟩ := nat_var ((p2 + q2) % 3329)
      have HC7 := Lib.hid fun w => rsum_any p2 q2 u2 w hp2l hq2l hu2
      have hmu : mulN f g j = u := by
        unfold mulN
        rw [if_pos (by omega), show j / 2 = h by omega, ← hj1, ← hx0, ← hx1, ← hy0, ← hy1, ← he0, ← he2, ← he1, ← hz, ← mul_even, ← hp, ← hq, ← hs, ← hu]
      have hmu2 : mulN f g j1 = u2 := by
        unfold mulN
        rw [if_neg (by omega), show j1 - 1 = j by omega, ← hx0, ← hx1, ← hy0, ← hy1, ← mul_odd, ← hp2, ← hq2, ← hu2]
      have HS1 : Hid (∀ k, k < 256 → (fun k => if k < j1 then mulN f g k else 0) k = if k = j then u else (fun k => if k < j then mulN f g k else 0) k) := Lib.hid fun k hk => by
        show (if k < j1 then mulN f g k else 0) = if k = j then u else if k < j then mulN f g k else 0
        by_cases e : k = j
        · subst e; rw [if_pos (by omega), if_pos rfl, hmu]
        · rw [if_neg e]
          by_cases h2 : k < j
          · rw [if_pos h2, if_pos (by omega)]
          · rw [if_neg h2, if_neg (by omega)]
      have HS2 : Hid (∀ k, k < 256 → (fun k => if k < j2 then mulN f g k else 0) k = if k = j1 then u2 else (fun k => if k < j1 then mulN f g k else 0) k) := Lib.hid fun k hk => by
        show (if k < j2 then mulN f g k else 0) = if k = j1 then u2 else if k < j1 then mulN f g k else 0
        by_cases e : k = j1
        · subst e; rw [if_pos (by omega), if_pos rfl, hmu2]
        · rw [if_neg e]
          by_cases h2 : k < j1
          · rw [if_pos h2, if_pos (by omega)]
          · rw [if_neg h2, if_neg (by omega)]
      have HJ : Hid (j < 256) := Lib.hid (by omega)
      have HJ1 : Hid (j1 < 256) := Lib.hid (by omega)
      have HJ2 : Hid (j2 = 2 * (h + 1)) := Lib.hid (by omega)
      have HMS : Hid (256 - j2 < 256 - j) := Lib.hid (by omega)
      have HX0 := Lib.hid hx0.symm
      have HX1 := Lib.hid hx1.symm
      have HY0 := Lib.hid hy0.symm
      have HY1 := Lib.hid hy1.symm
      have HWJ := Lib.hid hwj1
      have HH : Hid (h + 1 ≤ 128) := Lib.hid hlt
      clear hx0 hx1 hy0 hy1 hp hq hs hu hp2 hq2 hu2 hmu hmu2 hz he0 he1 he2 hj hj1 hj2 hx0l hx1l hy0l hy1l hpl hql hsl hp2l hq2l hzl hh hlt
      go_wp2_with (first
        | (have hgo := HRV; clear hgo
           go_at_call 40
           refine (HRV.out _).mono ?_
           rintro e w5 ⟨rfl, rfl⟩
           clear HRV)
        | (have hgo := HZZ; clear hgo
           refine wpList_load_py rfl (.tmp 19) rfl r_t5 HE1.out rfl HZZ.out ?_
           clear HZZ))
      replace r_t2 := World.rowIs.drew r_t2
      replace r_t3 := World.rowIs.drew r_t3
      replace r_t4 := World.rowIs.drew r_t4
      replace r_t5 := World.rowIs.drew r_t5
      replace r_t6 := World.rowIs.drew r_t6
      replace Bw := Bw.drew
      refine le_start [(0, some [21]), (1, some [21]), (2, some [21]), (3, some [7]), (4, some [21]), (5, some [21]), (6, some [7]), (8, some [21]), (9, some [21]), (10, some [21]), (11, some [16]), (12, some [21]), (13, some [21]), (14, some [21]), (15, some [16]), (17, some [18]), (7, none), (16, none), (18, none), (19, none), (20, some [21]), (21, none)] 1000 (by kernel_rfl) (by kernel_rfl) (by decide) (by kernel_rfl) (fun d _ _ _ _ h => by cases d <;> exact h) ?_
      refine le_rd 21 (.int .i64 (j : Int)) rfl rfl rfl rfl rfl rfl (x_move rfl) ?_
      simp only [Act.put, zA, zB, zC]
      refine le_rd 22 (.int .i64 (j : Int)) rfl rfl rfl rfl rfl rfl (x_move rfl) ?_
      simp only [Act.put, zA, zB, zC]
      refine le_rd 23 (.pointer (some ⟨b_t2, j, none⟩)) rfl rfl rfl rfl rfl rfl (x_ia rfl rfl HJ.out _) ?_
      simp only [Act.put, zA, zB, zC]
      refine le_rd 24 (.int .u16 (x0 : Int)) rfl rfl rfl rfl rfl rfl (x_ld rfl r_t2 HJ.out HX0.out) ?_
      simp only [Act.put, zA, zB, zC]
      refine le_rd 25 (.int .i64 (j : Int)) rfl rfl rfl rfl rfl rfl (x_move rfl) ?_
      simp only [Act.put, zA, zB, zC]
      refine le_rd 26 (.pointer (some ⟨b_t3, j, none⟩)) rfl rfl rfl rfl rfl rfl (x_ia rfl rfl HJ.out _) ?_
      simp only [Act.put, zA, zB, zC]
      refine le_rd 27 (.int .u16 (y0 : Int)) rfl rfl rfl rfl rfl rfl (x_ld rfl r_t3 HJ.out HY0.out) ?_
      simp only [Act.put, zA, zB, zC]
      refine le_rd 29 (.int .i64 (j : Int)) rfl rfl rfl rfl rfl rfl (x_move rfl) ?_
      simp only [Act.put, zA, zB, zC]
      refine le_rd 30 (.int .i64 (j1 : Int)) rfl rfl rfl rfl rfl rfl (x_add rfl rfl HWJ.out _) ?_
      simp only [Act.put, zA, zB, zC]
      refine le_rd 31 (.pointer (some ⟨b_t2, j1, none⟩)) rfl rfl rfl rfl rfl rfl (x_ia rfl rfl HJ1.out _) ?_
      simp only [Act.put, zA, zB, zC]
      refine le_rd 32 (.int .u16 (x1 : Int)) rfl rfl rfl rfl rfl rfl (x_ld rfl r_t2 HJ1.out HX1.out) ?_
      simp only [Act.put, zA, zB, zC]
      refine le_rd 33 (.int .i64 (j : Int)) rfl rfl rfl rfl rfl rfl (x_move rfl) ?_
      simp only [Act.put, zA, zB, zC]
      refine le_rd 34 (.int .i64 (j1 : Int)) rfl rfl rfl rfl rfl rfl (x_add rfl rfl HWJ.out _) ?_
      simp only [Act.put, zA, zB, zC]
      refine le_rd 35 (.pointer (some ⟨b_t3, j1, none⟩)) rfl rfl rfl rfl rfl rfl (x_ia rfl rfl HJ1.out _) ?_
      simp only [Act.put, zA, zB, zC]
      refine le_rd 36 (.int .u16 (y1 : Int)) rfl rfl rfl rfl rfl rfl (x_ld rfl r_t3 HJ1.out HY1.out) ?_
      simp only [Act.put, zA, zB, zC]
      refine le_rd 38 (.int .u16 (z : Int)) rfl rfl rfl rfl rfl rfl (x_move rfl) ?_
      simp only [Act.put, zA, zB, zC]
      refine le_call 28 (HC1.out) rfl rfl rfl rfl Try.func44 (by kernel_rfl) (by kernel_rfl) (ar2 rfl rfl) ?_
      simp only [Act.put, zA, zB, zC]
      refine le_call 37 (HC2.out) rfl rfl rfl rfl Try.func44 (by kernel_rfl) (by kernel_rfl) (ar2 rfl rfl) ?_
      simp only [Act.put, zA, zB, zC]
      refine le_call 39 (HC3.out) rfl rfl rfl rfl Try.func44 (by kernel_rfl) (by kernel_rfl) (ar2 rfl rfl) ?_
      simp only [Act.put, zA, zB, zC]
      refine le_call 40 (HC4.out) rfl rfl rfl rfl Try.func36 (by kernel_rfl) (by kernel_rfl) (ar2 rfl rfl) ?_
      simp only [Act.put, zA, zB, zC]
      refine le_rd 41 (.pointer (some ⟨b_t6, j, none⟩)) rfl rfl rfl rfl rfl rfl (x_ia rfl rfl HJ.out _) ?_
      simp only [Act.put, zA, zB, zC]
      refine le_store (fun k => if k < j1 then mulN f g k else 0) rfl rfl rfl rfl rfl rfl r_t6 HJ.out rfl rfl HS1.out ?_
      intro w7 q gk
      replace r_t2 := gb_rowIs r_t2 gk n_t2_t6
      replace r_t3 := gb_rowIs r_t3 gk n_t3_t6
      replace r_t4 := gb_rowIs r_t4 gk n_t4_t6
      replace r_t5 := gb_rowIs r_t5 gk n_t5_t6
      replace Bw := Bw.grown gk (HGS.out _ Bw) (by intro k hk; cases hk; exact l_t6)
      replace r_t6 := q
      clear gk q HS1
      refine le_end ?_
      go_wp2
      replace r_t2 := World.rowIs.drew r_t2
      replace r_t3 := World.rowIs.drew r_t3
      replace r_t4 := World.rowIs.drew r_t4
      replace r_t5 := World.rowIs.drew r_t5
      replace r_t6 := World.rowIs.drew r_t6
      replace Bw := Bw.drew
      refine le_start [(0, some [20]), (1, some [20]), (2, some [20]), (3, some [20]), (4, some [9]), (5, some [20]), (6, some [20]), (7, some [20]), (8, some [9]), (10, some [20]), (11, some [20]), (12, some [20]), (13, some [17]), (14, some [20]), (15, some [20]), (16, some [17]), (9, none), (17, none), (18, none), (19, some [20]), (20, none)] 1000 (by kernel_rfl) (by kernel_rfl) (by decide) (by kernel_rfl) (fun d _ _ _ _ h => by cases d <;> exact h) ?_
      refine le_rd 42 (.int .i64 (j : Int)) rfl rfl rfl rfl rfl rfl (x_move rfl) ?_
      simp only [Act.put, zA, zB, zC]
      refine le_rd 43 (.int .i64 (j1 : Int)) rfl rfl rfl rfl rfl rfl (x_add rfl rfl HWJ.out _) ?_
      simp only [Act.put, zA, zB, zC]
      refine le_rd 44 (.int .i64 (j : Int)) rfl rfl rfl rfl rfl rfl (x_move rfl) ?_
      simp only [Act.put, zA, zB, zC]
      refine le_rd 45 (.pointer (some ⟨b_t2, j, none⟩)) rfl rfl rfl rfl rfl rfl (x_ia rfl rfl HJ.out _) ?_
      simp only [Act.put, zA, zB, zC]
      refine le_rd 46 (.int .u16 (x0 : Int)) rfl rfl rfl rfl rfl rfl (x_ld rfl r_t2 HJ.out HX0.out) ?_
      simp only [Act.put, zA, zB, zC]
      refine le_rd 47 (.int .i64 (j : Int)) rfl rfl rfl rfl rfl rfl (x_move rfl) ?_
      simp only [Act.put, zA, zB, zC]
      refine le_rd 48 (.int .i64 (j1 : Int)) rfl rfl rfl rfl rfl rfl (x_add rfl rfl HWJ.out _) ?_
      simp only [Act.put, zA, zB, zC]
      refine le_rd 49 (.pointer (some ⟨b_t3, j1, none⟩)) rfl rfl rfl rfl rfl rfl (x_ia rfl rfl HJ1.out _) ?_
      simp only [Act.put, zA, zB, zC]
      refine le_rd 50 (.int .u16 (y1 : Int)) rfl rfl rfl rfl rfl rfl (x_ld rfl r_t3 HJ1.out HY1.out) ?_
      simp only [Act.put, zA, zB, zC]
      refine le_rd 52 (.int .i64 (j : Int)) rfl rfl rfl rfl rfl rfl (x_move rfl) ?_
      simp only [Act.put, zA, zB, zC]
      refine le_rd 53 (.int .i64 (j1 : Int)) rfl rfl rfl rfl rfl rfl (x_add rfl rfl HWJ.out _) ?_
      simp only [Act.put, zA, zB, zC]
      refine le_rd 54 (.pointer (some ⟨b_t2, j1, none⟩)) rfl rfl rfl rfl rfl rfl (x_ia rfl rfl HJ1.out _) ?_
      simp only [Act.put, zA, zB, zC]
      refine le_rd 55 (.int .u16 (x1 : Int)) rfl rfl rfl rfl rfl rfl (x_ld rfl r_t2 HJ1.out HX1.out) ?_
      simp only [Act.put, zA, zB, zC]
      refine le_rd 56 (.int .i64 (j : Int)) rfl rfl rfl rfl rfl rfl (x_move rfl) ?_
      simp only [Act.put, zA, zB, zC]
      refine le_rd 57 (.pointer (some ⟨b_t3, j, none⟩)) rfl rfl rfl rfl rfl rfl (x_ia rfl rfl HJ.out _) ?_
      simp only [Act.put, zA, zB, zC]
      refine le_rd 58 (.int .u16 (y0 : Int)) rfl rfl rfl rfl rfl rfl (x_ld rfl r_t3 HJ.out HY0.out) ?_
      simp only [Act.put, zA, zB, zC]
      refine le_call 51 (HC5.out) rfl rfl rfl rfl Try.func44 (by kernel_rfl) (by kernel_rfl) (ar2 rfl rfl) ?_
      simp only [Act.put, zA, zB, zC]
      refine le_call 59 (HC6.out) rfl rfl rfl rfl Try.func44 (by kernel_rfl) (by kernel_rfl) (ar2 rfl rfl) ?_
      simp only [Act.put, zA, zB, zC]
      refine le_call 60 (HC7.out) rfl rfl rfl rfl Try.func36 (by kernel_rfl) (by kernel_rfl) (ar2 rfl rfl) ?_
      simp only [Act.put, zA, zB, zC]
      refine le_rd 61 (.pointer (some ⟨b_t6, j1, none⟩)) rfl rfl rfl rfl rfl rfl (x_ia rfl rfl HJ1.out _) ?_
      simp only [Act.put, zA, zB, zC]
      refine le_store (fun k => if k < j2 then mulN f g k else 0) rfl rfl rfl rfl rfl rfl r_t6 HJ1.out rfl rfl HS2.out ?_
      intro w8 q gk
      replace r_t2 := gb_rowIs r_t2 gk n_t2_t6
      replace r_t3 := gb_rowIs r_t3 gk n_t3_t6
      replace r_t4 := gb_rowIs r_t4 gk n_t4_t6
      replace r_t5 := gb_rowIs r_t5 gk n_t5_t6
      replace Bw := Bw.grown gk (HGS.out _ Bw) (by intro k hk; cases hk; exact l_t6)
      replace r_t6 := q
      clear gk q HS2
      refine le_end ?_
      go_wp2
      go_roundw
      case rel => exact ⟨h + 1, j2, HH.out, HJ2, rfl, r_t2, r_t3, r_t4, r_t5, r_t6, Bw⟩
      case measure => (have := HMS.out; simp [intOf]; try omega)
    · have hj := HJH.out
      have hjI : ¬ (j : Int) < 256 := by omega
      replace r_t6 : wr.rowIs b_t6 26 256 (pyF (mulN f g)) := pyF_congr r_t6 fun k hk => if_pos (by omega)
      have Bw0 := Bw
      clear Bw hj
      go_wp2_with (first
        | (have hgo := Bw0; clear hgo
           refine wpList_load_as rfl 26 (.tmp 6) rfl 256 (pyF (mulN f g)) arrP r_t6 rfl (by omega) (fun i hi => by rw [Nat.zero_add]) ?_
           have Bw1 := Bw0
           clear Bw0)
        | (have hgo := Bw1; clear hgo
           refine wpList_store_as rfl 26 (.tmp 4) (.tmp 62) rfl 256 (pyF (mulN f g)) arrP r_t4 rfl rfl (by omega) (fun _ _ => rfl) (fun i hi => putN_whole hi) ?_
           intro w502 q gk
           replace r_t2 := gb_rowIs r_t2 gk n_t2_t4
           replace r_t3 := gb_rowIs r_t3 gk n_t3_t4
           replace r_t5 := gb_rowIs r_t5 gk (Ne.symm n_t4_t5)
           replace r_t6 := gb_rowIs r_t6 gk (Ne.symm n_t4_t6)
           replace r_t4 := q
           have Bw2 := zbg HGS Bw1 gk l_t4
           clear Bw1 gk q))
      exact ret_cell_as _ rfl arrP r_t4 rfl (by omega) (fun _ _ => rfl) rfl ⟨rfl, Bw2⟩
end Go.Proofs.Ytnpifjimmeehdaa

/- The document's polynomials: the product mod x^256 + 1, place by place. -/
namespace Go.Proofs.Ytnpifjimmeehdaa
open Go.RowKit Go.Deep
set_option linter.unusedSimpArgs false
set_option linter.unusedVariables false

def inF (f : Nat → Nat) : Nat → Value := fun i => .int .i64 ((f i : Nat) : Int)
theorem zeroI512 : (Try.prog.info? 62).map (fun i => i.zero) = some (some (.agg (arrOf 512 (inF fun _ => 0)))) := by kernel_rfl
theorem inF_cell {w : World} {b : Nat} {t : TypeId} {f : Nat → Nat} (h : w.rowIs b t 512 (inF f)) (i : Nat) (hi : i < 512) {x : Nat} (hx : f i = x) : w.cell? ⟨b, i, none⟩ = some (.int .i64 (x : Int)) := by
  rw [← hx]
  exact h.cell hi
theorem inF_set {w : World} {b : Nat} {t : TypeId} {f g : Nat → Nat} (h : w.rowIs b t 512 (inF f)) (i z : Nat) (hg : ∀ k, k < 512 → g k = if k = i then z else f k) : (w.setCell ⟨b, i, none⟩ (.int .i64 (z : Int))).rowIs b t 512 (inF g) :=
  (h.set i _).congr fun k hk => by
    show (if k = i then _ else _) = _
    unfold inF
    rw [hg k hk]
    split <;> rfl
theorem inF_congr {w : World} {b : Nat} {t : TypeId} {f g : Nat → Nat} (h : w.rowIs b t 512 (inF f)) (hg : ∀ k, k < 512 → f k = g k) : w.rowIs b t 512 (inF g) :=
  h.congr fun k hk => by unfold inF; rw [hg k hk]
/-- What the first numbers of f add, place by place. -/
def cN (f g : Nat → Nat) : Nat → Nat → Nat
  | 0, _ => 0
  | i + 1, t => if i ≤ t ∧ t < i + 256 then (cN f g i t + f i % 3329 * (g (t - i) % 3329)) % 3329 else cN f g i t
def slowN (f g : Nat → Nat) (k : Nat) : Nat := (cN f g 256 k + 3329 - cN f g 256 (k + 256)) % 3329
theorem cN_lt (f g : Nat → Nat) : ∀ i t, cN f g i t < 3329
  | 0, _ => by show 0 < 3329; decide
  | i + 1, t => by
    unfold cN
    split
    · exact Nat.mod_lt _ (by decide)
    · exact cN_lt f g i t
theorem cN_rq (f g : Nat → Nat) (t : Nat) : ∀ n, rq (cN f g n t) = sumR (fun i => rq (f i) * (if i ≤ t ∧ t < i + 256 then rq (g (t - i)) else 0)) n
  | 0 => rfl
  | n + 1 => by
    rw [sumR, ← cN_rq f g t n, cN]
    by_cases h : n ≤ t ∧ t < n + 256
    · rw [if_pos h, if_pos h, rq_mod, rq_add, rq_mul, rq_mod, rq_mod]
    · rw [if_neg h, if_neg h]
      grind
theorem slowN_lt (f g : Nat → Nat) (k : Nat) : slowN f g k < 3329 := Nat.mod_lt _ (by decide)
theorem slowN_rq (f g : Nat → Nat) (k : Nat) (hk : k < 256) : rq (slowN f g k) = slowR (fun i => rq (f i)) (fun i => rq (g i)) k := by
  unfold slowN slowR
  rw [rq_mod, Nat.add_sub_assoc (Nat.le_of_lt (cN_lt _ _ _ _)), rq_sub _ _ _ (Nat.le_of_lt (cN_lt _ _ _ _)) (by decide), cN_rq, cN_rq]
  have e : ∀ x y : Rq, x - y = x + (-1) * y := fun x y => by grind
  rw [e, ← sumR_mul, ← sumR_add]
  refine sumR_congr 256 fun i hi => ?_
  by_cases h : i ≤ k
  · rw [if_pos ⟨h, by omega⟩, if_neg (by omega), if_pos h]
    grind
  · rw [if_neg (by omega), if_pos ⟨by omega, by omega⟩, if_neg h]
    grind
/-- Within the round i: the places of the first k are told. -/
def cM (f g : Nat → Nat) (i k t : Nat) : Nat := if i ≤ t ∧ t < i + k then cN f g (i + 1) t else cN f g i t
set_option maxHeartbeats 4000000 in
set_option maxRecDepth 20000 in
theorem refSlow_any (f g : Nat → Nat) (w : World) (hf : ∀ i, f i < 65536) (hg : ∀ i, g i < 65536) : Calls Try.prog 32 #[.agg (arrOf 256 (pyF f)), .agg (arrOf 256 (pyF g))] w fun e w' => e = .returned (.agg (arrOf 256 (pyF (slowN f g)))) ∧ Below w.heap.size w w' := by
  have Bw0 := Below.refl w.heap.size w
  have HGS : Hid (∀ wq : World, Below w.heap.size w wq → w.heap.size ≤ wq.heap.size) := Lib.hid fun wq h => h.size
  have Hf := Lib.hid hf
  have Hg := Lib.hid hg
  clear hf hg
  go_enter Try.func32, Try.ntmps32
  go_wp2_with (first
    | (have hgo := Bw0; clear hgo
       refine wpList_box_row rfl 27 (.tmp 0) rfl 256 (pyF f) rfl ?_
       intro b_t2 w1 lk r_t2 kk
       have l_t2 := Nat.le_trans (HGS.out _ Bw0) lk
       have Bw1 := Bw0.trans (kk.mono (HGS.out _ Bw0))
       clear Bw0 kk lk)
    | (have hgo := Bw1; clear hgo
       refine wpList_box_row rfl 27 (.tmp 1) rfl 256 (pyF g) rfl ?_
       intro b_t3 w2 lk r_t3 kk
       have n_t2_t3 : b_t2 ≠ b_t3 := Nat.ne_of_lt (Nat.lt_of_lt_of_le (World.rowIs.lt r_t2) lk)
       have l_t3 := Nat.le_trans (HGS.out _ Bw1) lk
       replace r_t2 := World.rowIs.of_block r_t2 (kk.block _ (World.rowIs.lt r_t2))
       have Bw2 := Bw1.trans (kk.mono (HGS.out _ Bw1))
       clear Bw1 kk lk)
    | (have hgo := Bw2; clear hgo
       refine wpList_alloc_row rfl 27 rfl 256 (pyF fun _ => 0) zeroPy ?_
       intro b_t4 w3 lk r_t4 kk
       have n_t2_t4 : b_t2 ≠ b_t4 := Nat.ne_of_lt (Nat.lt_of_lt_of_le (World.rowIs.lt r_t2) lk)
       have n_t3_t4 : b_t3 ≠ b_t4 := Nat.ne_of_lt (Nat.lt_of_lt_of_le (World.rowIs.lt r_t3) lk)
       have l_t4 := Nat.le_trans (HGS.out _ Bw2) lk
       replace r_t2 := World.rowIs.of_block r_t2 (kk.block _ (World.rowIs.lt r_t2))
       replace r_t3 := World.rowIs.of_block r_t3 (kk.block _ (World.rowIs.lt r_t3))
       have Bw3 := Bw2.trans (kk.mono (HGS.out _ Bw2))
       clear Bw2 kk lk)
    | (have hgo := Bw3; clear hgo
       refine wpList_alloc_row rfl 62 rfl 512 (inF fun _ => 0) zeroI512 ?_
       intro b_t5 w4 lk r_t5 kk
       have n_t2_t5 : b_t2 ≠ b_t5 := Nat.ne_of_lt (Nat.lt_of_lt_of_le (World.rowIs.lt r_t2) lk)
       have n_t3_t5 : b_t3 ≠ b_t5 := Nat.ne_of_lt (Nat.lt_of_lt_of_le (World.rowIs.lt r_t3) lk)
       have n_t4_t5 : b_t4 ≠ b_t5 := Nat.ne_of_lt (Nat.lt_of_lt_of_le (World.rowIs.lt r_t4) lk)
       have l_t5 := Nat.le_trans (HGS.out _ Bw3) lk
       replace r_t2 := World.rowIs.of_block r_t2 (kk.block _ (World.rowIs.lt r_t2))
       replace r_t3 := World.rowIs.of_block r_t3 (kk.block _ (World.rowIs.lt r_t3))
       replace r_t4 := World.rowIs.of_block r_t4 (kk.block _ (World.rowIs.lt r_t4))
       have Bw4 := Bw3.trans (kk.mono (HGS.out _ Bw3))
       clear Bw3 kk lk))
  go_loopw [6] (fun iv wr => ∃ i : Nat, i ≤ 256 ∧ iv = .int .i64 (i : Int) ∧ wr.rowIs b_t2 27 256 (pyF f) ∧ wr.rowIs b_t3 27 256 (pyF g) ∧ wr.rowIs b_t4 27 256 (pyF fun _ => 0) ∧ wr.rowIs b_t5 62 512 (inF (cN f g i)) ∧ Below w.heap.size w wr) (fun iv _ => 256 - (intOf iv).toNat)
  case atStart => exact ⟨0, Nat.zero_le _, rfl, r_t2, r_t3, r_t4, r_t5, Bw4⟩
  case round =>
    clear r_t2 r_t3 r_t4 r_t5 Bw4
    obtain ⟨i, hi, rfl, r_t2, r_t3, r_t4, r_t5, Bw⟩ := hrel
    by_cases hlt : i < 256
    · have hiI : 0 ≤ (i : Int) ∧ (i : Int) < 256 := by omega
      have r_c : wr.rowIs b_t5 62 512 (inF (cM f g i 0)) := inF_congr r_t5 fun t _ => by unfold cM; rw [if_neg (by omega)]
      clear r_t5
      obtain ⟨x, hx⟩ := nat_var (f i)
      have hxl : x < 65536 := by rw [hx]; exact Hf.out i
      have HX := Lib.hid hx.symm
      have HIL := Lib.hid hlt
      clear hx
      go_wp2
      go_loopw [7] (fun kv wr => ∃ k : Nat, k ≤ 256 ∧ kv = .int .i64 (k : Int) ∧ wr.rowIs b_t2 27 256 (pyF f) ∧ wr.rowIs b_t3 27 256 (pyF g) ∧ wr.rowIs b_t4 27 256 (pyF fun _ => 0) ∧ wr.rowIs b_t5 62 512 (inF (cM f g i k)) ∧ Below w.heap.size w wr) (fun kv _ => 256 - (intOf kv).toNat)
      case atStart => exact ⟨0, Nat.zero_le _, rfl, r_t2, r_t3, r_t4, r_c, Bw⟩
      case round =>
        clear r_t2 r_t3 r_t4 r_c Bw
        obtain ⟨k, hk, rfl, r_t2, r_t3, r_t4, r_t5, Bw⟩ := hrel
        by_cases hkl : k < 256
        · have hkI : 0 ≤ (k : Int) ∧ (k : Int) < 256 := by omega
          obtain ⟨y, hy⟩ := nat_var (g k)
          have hyl : y < 65536 := by rw [hy]; exact Hg.out k
          obtain ⟨t, ht⟩ := nat_var (i + k)
          have htI : 0 ≤ (t : Int) ∧ (t : Int) < 512 := by omega
          have hwt : IntKind.i64.wrap ((i : Int) + (k : Int)) = (t : Int) := by rw [IntWalk.i64_in _ (by omega)]; omega
          obtain ⟨c, hc⟩ := nat_var (cN f g i t)
          have hcl : c < 3329 := by rw [hc]; exact cN_lt _ _ _ _
          obtain ⟨a, ha⟩ := nat_var (x % 3329)
          have hwx : IntKind.i64.wrap (x : Int) = (x : Int) := IntWalk.i64_in _ (by omega)
          have hmx : IntKind.i64.wrap ((x : Int).tmod 3329) = (a : Int) := by rw [Int.tmod_eq_emod_of_nonneg (by omega), IntWalk.i64_in _ (by omega)]; omega
          have hnx : (x : Int).tmod 3329 = (a : Int) := by rw [Int.tmod_eq_emod_of_nonneg (by omega)]; omega
          have hla : a < 3329 := by omega
          obtain ⟨b, hb⟩ := nat_var (y % 3329)
          have hwy : IntKind.i64.wrap (y : Int) = (y : Int) := IntWalk.i64_in _ (by omega)
          have hmy : IntKind.i64.wrap ((y : Int).tmod 3329) = (b : Int) := by rw [Int.tmod_eq_emod_of_nonneg (by omega), IntWalk.i64_in _ (by omega)]; omega
          have hny : (y : Int).tmod 3329 = (b : Int) := by rw [Int.tmod_eq_emod_of_nonneg (by omega)]; omega
          have hlb : b < 3329 := by omega
          obtain ⟨p, hp⟩ := nat_var (a * b)
          have hlp : p ≤ 3328 * 3328 := by rw [hp]; exact Nat.mul_le_mul (by omega) (by omega)
          have hwp : IntKind.i64.wrap ((a : Int) * (b : Int)) = (p : Int) := by rw [← Int.natCast_mul, ← hp, IntWalk.i64_in _ (by omega)]
          obtain ⟨u, hu⟩ := nat_var (c + p)
          have hwu : IntKind.i64.wrap ((c : Int) + (p : Int)) = (u : Int) := by rw [IntWalk.i64_in _ (by omega)]; omega
          obtain ⟨z, hz⟩ := nat_var (u % 3329)
          have hmz : IntKind.i64.wrap ((u : Int).tmod 3329) = (z : Int) := by rw [Int.tmod_eq_emod_of_nonneg (by omega), IntWalk.i64_in _ (by omega)]; omega
          have hnz : (u : Int).tmod 3329 = (z : Int) := by rw [Int.tmod_eq_emod_of_nonneg (by omega)]; omega
          have hlz : z < 3329 := by omega
          have hz2 : cN f g (i + 1) t = z := by
            rw [cN, if_pos ⟨by omega, by omega⟩, show t - i = k by omega, HX.out, ← hy, ← hc, ← ha, ← hb, ← hp, ← hu, ← hz]
          have hcx := pyF_cell r_t2 i HIL.out HX.out
          have hcy := pyF_cell r_t3 k hkl hy.symm
          have hcc := inF_cell r_t5 t (by omega) (x := c) (by unfold cM; rw [if_neg (by omega), hc])
          have hfr := r_t5.frozen t
          have hset := inF_set (g := cM f g i (k + 1)) r_t5.drew t z fun j hj => by
            unfold cM
            by_cases e : j = t
            · subst e; rw [if_pos (by omega), if_pos rfl, hz2]
            · rw [if_neg e]
              by_cases h3 : i ≤ j ∧ j < i + k
              · rw [if_pos h3, if_pos (by omega)]
              · rw [if_neg h3, if_neg (by omega)]
          have k2 := gb_rowIs r_t2.drew (grownBy_set _ b_t5 t (.int .i64 (z : Int))) n_t2_t5
          have k3 := gb_rowIs r_t3.drew (grownBy_set _ b_t5 t (.int .i64 (z : Int))) n_t3_t5
          have k4 := gb_rowIs r_t4.drew (grownBy_set _ b_t5 t (.int .i64 (z : Int))) n_t4_t5
          have kb := Bw.drew.setCell (p := ⟨b_t5, t, none⟩) l_t5 (.int .i64 (z : Int))
          have HSET := Lib.hid hset
          clear hset hz2 hy ht hc ha hb hp hu hz r_t2 r_t3 r_t4 r_t5 Bw
          go_wp2
          go_region
          go_wp2
          go_roundw
          case rel => exact ⟨k + 1, by omega, by go_num, k2, k3, k4, HSET.out, kb⟩
          case measure => (simp [intOf]; try omega)
        · obtain rfl : k = 256 := by omega
          have r_n := inF_congr (g := cN f g (i + 1)) r_t5 fun t _ => by
            unfold cM
            by_cases h3 : i ≤ t ∧ t < i + 256
            · rw [if_pos h3]
            · rw [if_neg h3, cN, if_neg h3]
          clear r_t5
          go_wp2
          go_roundw
          case rel => exact ⟨i + 1, by have := HIL.out; omega, by go_num, r_t2, r_t3, r_t4, r_n, Bw⟩
          case measure => (have := HIL.out; simp [intOf]; try omega)
    · obtain rfl : i = 256 := by omega
      go_wp2_with (refine wpList_alloc_row rfl 27 rfl 256 (pyF fun _ => 0) zeroPy ?_
                   intro b_t8 w8 lk r_t8 kk
                   have n_t4_t8 : b_t4 ≠ b_t8 := Nat.ne_of_lt (Nat.lt_of_lt_of_le (World.rowIs.lt r_t4) lk)
                   have n_t5_t8 : b_t5 ≠ b_t8 := Nat.ne_of_lt (Nat.lt_of_lt_of_le (World.rowIs.lt r_t5) lk)
                   have l_t8 := Nat.le_trans (HGS.out _ Bw) lk
                   replace r_t4 := World.rowIs.of_block r_t4 (kk.block _ (World.rowIs.lt r_t4))
                   replace r_t5 := World.rowIs.of_block r_t5 (kk.block _ (World.rowIs.lt r_t5))
                   have Bw8 := Bw.trans (kk.mono (HGS.out _ Bw))
                   clear Bw kk lk r_t2 r_t3)
      go_loopw [9] (fun kv wr => ∃ k : Nat, k ≤ 256 ∧ kv = .int .i64 (k : Int) ∧ wr.rowIs b_t4 27 256 (pyF fun _ => 0) ∧ wr.rowIs b_t5 62 512 (inF (cN f g 256)) ∧ wr.rowIs b_t8 27 256 (pyF fun j => if j < k then slowN f g j else 0) ∧ Below w.heap.size w wr) (fun kv _ => 256 - (intOf kv).toNat)
      case atStart => exact ⟨0, Nat.zero_le _, rfl, r_t4, r_t5, pyF_congr r_t8 (fun j _ => (if_neg (Nat.not_lt_zero j)).symm), Bw8⟩
      case round =>
        clear r_t4 r_t5 r_t8 Bw8
        obtain ⟨k, hk, rfl, r_t4, r_t5, r_t8, Bw⟩ := hrel
        by_cases hkl : k < 256
        · have hkI : 0 ≤ (k : Int) ∧ (k : Int) < 256 := by omega
          have hkJ : (k : Int) < 512 := by omega
          obtain ⟨x, hx⟩ := nat_var (cN f g 256 k)
          obtain ⟨y, hy⟩ := nat_var (cN f g 256 (k + 256))
          have hxl : x < 3329 := by rw [hx]; exact cN_lt _ _ _ _
          have hyl : y < 3329 := by rw [hy]; exact cN_lt _ _ _ _
          obtain ⟨k2, hk2⟩ := nat_var (k + 256)
          have hk2I : 0 ≤ (k2 : Int) ∧ (k2 : Int) < 512 := by omega
          have hwk : IntKind.i64.wrap ((k : Int) + 256) = (k2 : Int) := by rw [IntWalk.i64_in _ (by omega)]; omega
          obtain ⟨u, hu⟩ := nat_var (x + 3329)
          have hwu : IntKind.i64.wrap ((x : Int) + 3329) = (u : Int) := by rw [IntWalk.i64_in _ (by omega)]; omega
          obtain ⟨v, hv⟩ := nat_var (u - y)
          have hwv : IntKind.i64.wrap ((u : Int) - (y : Int)) = (v : Int) := by rw [IntWalk.i64_in _ (by omega)]; omega
          obtain ⟨z, hz⟩ := nat_var (v % 3329)
          have hmz : IntKind.i64.wrap ((v : Int).tmod 3329) = (z : Int) := by rw [Int.tmod_eq_emod_of_nonneg (by omega), IntWalk.i64_in _ (by omega)]; omega
          have hnz : (v : Int).tmod 3329 = (z : Int) := by rw [Int.tmod_eq_emod_of_nonneg (by omega)]; omega
          have hwz := u16_in z (by omega)
          have hres : slowN f g k = z := by unfold slowN; rw [← hx, ← hy, ← hu, ← hv, ← hz]
          have hcx := inF_cell r_t5 k (by omega) hx.symm
          have hcy := inF_cell r_t5 k2 (by omega) (x := y) (by rw [hk2, hy])
          have hch := pyF_cell r_t8 k hkl (if_neg (Nat.lt_irrefl k))
          have hfr := r_t8.frozen k
          have hset := pyF_set (g := fun j => if j < k + 1 then slowN f g j else 0) r_t8.drew k z fun j hj => by
            show (if j < k + 1 then slowN f g j else 0) = if j = k then z else if j < k then slowN f g j else 0
            by_cases e : j = k
            · subst e; rw [if_pos (Nat.lt_succ_self j), if_pos rfl, hres]
            · rw [if_neg e]
              by_cases h3 : j < k
              · rw [if_pos h3, if_pos (by omega)]
              · rw [if_neg h3, if_neg (by omega)]
          have k4 := gb_rowIs r_t4.drew (grownBy_set _ b_t8 k (.int .u16 (z : Int))) n_t4_t8
          have k5 := gb_rowIs r_t5.drew (grownBy_set _ b_t8 k (.int .u16 (z : Int))) n_t5_t8
          have kb := Bw.drew.setCell (p := ⟨b_t8, k, none⟩) l_t8 (.int .u16 (z : Int))
          have HSET := Lib.hid hset
          clear hset hres hx hy hk2 hu hv hz r_t4 r_t5 r_t8 Bw
          go_wp2
          go_region
          go_wp2
          go_roundw
          case rel => exact ⟨k + 1, by omega, by go_num, k4, k5, HSET.out, kb⟩
          case measure => (simp [intOf]; try omega)
        · obtain rfl : k = 256 := by omega
          replace r_t8 := pyF_congr (g := slowN f g) r_t8 fun j hj => if_pos hj
          have Bw0 := Bw
          clear Bw
          go_wp2_with (first
            | (have hgo := Bw0; clear hgo
               refine wpList_load_as rfl 27 (.tmp 8) rfl 256 (pyF (slowN f g)) arrPy r_t8 rfl (by omega) (fun i hi => by rw [Nat.zero_add]) ?_
               have Bw1 := Bw0
               clear Bw0)
            | (have hgo := Bw1; clear hgo
               refine wpList_store_as rfl 27 (.tmp 4) (.tmp 57) rfl 256 (pyF (slowN f g)) arrPy r_t4 rfl rfl (by omega) (fun _ _ => rfl) (fun i hi => putN_whole hi) ?_
               intro w502 q gk
               replace r_t8 := gb_rowIs r_t8 gk (Ne.symm n_t4_t8)
               replace r_t4 := q
               have Bw2 := Bw1.grown gk (HGS.out _ Bw1) (by intro k hk; cases hk; exact l_t4)
               clear Bw1 gk q))
          exact ret_cell_as _ rfl arrPy r_t4 rfl (by omega) (fun _ _ => rfl) rfl ⟨rfl, Bw2⟩
end Go.Proofs.Ytnpifjimmeehdaa

/- The document's polynomials: the laws of the transform in natural numbers. -/
set_option linter.unusedSimpArgs false
set_option linter.unusedVariables false
namespace Go.Proofs.Ytnpifjimmeehdaa
open Go.RowKit Go.Deep

theorem rq_inj {a b : Nat} (ha : a < 3329) (hb : b < 3329) (h : rq a = rq b) : a = b := by
  have h2 := congrArg Fin.val h
  rw [val_rq, val_rq, Nat.mod_eq_of_lt ha, Nat.mod_eq_of_lt hb] at h2
  exact h2
theorem mulN_lt (f g : Nat → Nat) (k : Nat) : mulN f g k < 3329 := by
  unfold mulN
  split <;> exact Nat.mod_lt _ (by decide)
theorem mulN_rq (f g : Nat → Nat) : (fun k => rq (mulN f g k)) = mulR (fun i => rq (f i)) (fun i => rq (g i)) := by
  funext k
  have e : gm (k / 2) = rq (17 ^ (2 * rev7 (k / 2) + 1)) := by
    unfold gm
    rw [show (17 : Rq) = rq 17 from rfl, qpw_val]
  unfold mulN mulR
  by_cases h : k % 2 = 0
  · rw [if_pos h, if_pos h, e]
    simp only [rq_mod, rq_add, rq_mul]
  · rw [if_neg h, if_neg h]
    simp only [rq_mod, rq_add, rq_mul]
theorem invN_nttN (f : Nat → Nat) (hf : ∀ i, i < 256 → f i < 3329) (i : Nat) (hi : i < 256) : invN (nttN f) i = f i := by
  refine rq_inj (invN_lt _ _) (hf i hi) ?_
  have h1 := congrFun (invN_rq (nttN f)) i
  rw [nttN_rq, inv_ntt _ i hi] at h1
  exact h1
theorem invN_mul (f g : Nat → Nat) (i : Nat) (hi : i < 256) : invN (mulN (nttN f) (nttN g)) i = slowN f g i := by
  refine rq_inj (invN_lt _ _) (slowN_lt _ _ _) ?_
  have h1 := congrFun (invN_rq (mulN (nttN f) (nttN g))) i
  rw [mulN_rq, nttN_rq, nttN_rq, inv_ntt_mul _ _ i hi, ← slowN_rq f g i hi] at h1
  exact h1
theorem nttN_add (f g : Nat → Nat) (i : Nat) : nttN (fun k => (f k + g k) % 3329) i = (nttN f i + nttN g i) % 3329 := by
  refine rq_inj (nttN_lt _ _) (Nat.mod_lt _ (by decide)) ?_
  have h1 := congrFun (nttN_rq (fun k => (f k + g k) % 3329)) i
  rw [show (fun i => rq ((f i + g i) % 3329)) = fun i => rq (f i) + rq (g i) from funext fun k => by rw [rq_mod, rq_add], ntt_add, ← nttN_rq, ← nttN_rq] at h1
  rw [rq_mod, rq_add]
  exact h1
theorem nttN_sub (f g : Nat → Nat) (hg : ∀ i, g i ≤ 66580) (i : Nat) : nttN (fun k => (f k + 66580 - g k) % 3329) i = (nttN f i + 66580 - nttN g i) % 3329 := by
  refine rq_inj (nttN_lt _ _) (Nat.mod_lt _ (by decide)) ?_
  have h1 := congrFun (nttN_rq (fun k => (f k + 66580 - g k) % 3329)) i
  rw [show (fun i => rq ((f i + 66580 - g i) % 3329)) = fun i => rq (f i) - rq (g i) from funext fun k => by rw [rq_mod, Nat.add_sub_assoc (hg k), rq_sub _ _ _ (hg k) (by decide)], ntt_sub, ← nttN_rq, ← nttN_rq] at h1
  have h2 : nttN g i ≤ 66580 := Nat.le_of_lt (Nat.lt_trans (nttN_lt g i) (by decide))
  rw [rq_mod, Nat.add_sub_assoc h2, rq_sub _ _ _ h2 (by decide)]
  exact h1
theorem mulN_comm (f g : Nat → Nat) (k : Nat) : mulN f g k = mulN g f k := by
  refine rq_inj (mulN_lt _ _ _) (mulN_lt _ _ _) ?_
  have h1 := congrFun (mulN_rq f g) k
  have h2 := congrFun (mulN_rq g f) k
  rw [mulR_comm] at h1
  exact h1.trans h2.symm
/-- Times x^k: the numbers go round, their signs turn. -/
theorem slowN_unit (f : Nat → Nat) (hf : ∀ i, i < 256 → f i < 3329) (k m : Nat) (hk : k < 256) (hm : m < 256) :
    slowN f (fun i => if i = k then 1 else 0) m = if k ≤ m then f (m - k) else (3329 - f (m + 256 - k)) % 3329 := by
  refine rq_inj (slowN_lt _ _ _) ?_ ?_
  · split
    · exact hf _ (by omega)
    · exact Nat.mod_lt _ (by decide)
  · rw [slowN_rq _ _ _ hm, show (fun i => rq (if i = k then 1 else 0)) = unR k from funext fun i => by unfold unR; split <;> rfl, slow_unit _ k m hk hm]
    by_cases e : k ≤ m
    · rw [if_pos e, if_pos e]
    · rw [if_neg e, if_neg e, rq_mod]
      have h1 := rq_sub 0 (f (m + 256 - k)) 3329 (Nat.le_of_lt (hf _ (by omega))) (by decide)
      rw [Nat.zero_add] at h1
      rw [h1, show rq 0 = 0 from rfl]
      grind
end Go.Proofs.Ytnpifjimmeehdaa

/- What the laws of chapter 10 lean on. -/
namespace Go.Proofs.Ytnpifjimmeehdaa
open Go.RowKit Go.Deep
set_option linter.unusedSimpArgs false
set_option linter.unusedVariables false
theorem small_lt {F : Nat → Nat} (h : ∀ i, F i < 3329) (i : Nat) : F i < 65536 := Nat.lt_trans (h i) (by decide)
theorem roundI_any (x m r : Int) (w : World) (hx : (Lit.int .i64 x).wf = true) (hm : 0 < m) (hm2 : m ≤ 100000) (hr : r = x % m) : Calls Try.prog 34 #[.int .i64 x, .int .i64 m] w fun e w' => e = .returned (.int .i64 r) ∧ w' = w := by
  obtain ⟨hx1, hx2⟩ : -9223372036854775808 ≤ x ∧ x ≤ 9223372036854775807 := by
    unfold Lit.wf at hx
    simp only [Bool.and_eq_true, decide_eq_true_eq] at hx
    exact ⟨hx.1, hx.2⟩
  obtain ⟨y, hy⟩ : ∃ y, y = x.tmod m := ⟨_, rfl⟩
  have h1 : -m < y ∧ y < m := by
    rw [hy]
    exact ⟨Int.lt_tmod_of_pos _ hm, Int.tmod_lt_of_pos _ hm⟩
  have h2 : r = if y < 0 then y + m else y := by
    have h3 := Int.tmod_add_mul_tdiv x m
    have h4 := Int.emod_emod_of_dvd x (Int.dvd_refl m)
    rw [hr]
    have h5 : x % m = y % m := by rw [← h3, ← hy, Int.add_mul_emod_self_left]
    rw [h5]
    split
    · rw [← Int.add_emod_right]
      exact Int.emod_eq_of_lt (by omega) (by omega)
    · exact Int.emod_eq_of_lt (by omega) (by omega)
  have hw : IntKind.i64.wrap (x.tmod m) = y := by rw [← hy]; exact IntWalk.i64_in _ (by omega)
  have hw2 : IntKind.i64.wrap y = y := IntWalk.i64_in _ (by omega)
  have hm0 : ¬ m = 0 := by omega
  have hm1 : ¬ m = -1 := by omega
  have rR : ∀ w : World, (binOp .rem 3 (.int .i64 x) (.int .i64 m)).run Try.prog w = .ok (.int .i64 y) w := fun w => by
    have hy2 := hy.symm
    clear h1 h2 hx1 hx2 hr hx hy
    go_simp
  have HR := Lib.hid rR
  by_cases h0 : y < 0
  · have hs : IntKind.i64.wrap (y + m) = r := by rw [h2, if_pos h0]; exact IntWalk.i64_in _ (by omega)
    clear h2 hx1 hx2 hr hx hy rR h1 hw
    go_enter Try.func34, Try.ntmps34
    go_wp2_with (first
      | (have hgo := HR; clear hgo
         refine wpList_binR (o := ⟨some 7, _, _, _, _, _⟩) rfl .rem 3 3 _ _ rfl (fun _ => rfl) HR.out rfl rfl ?_
         clear HR))
    go_ret
    exact ⟨rfl, rfl⟩
  · have hyr : y = r := by rw [h2, if_neg h0]
    subst hyr
    clear h2 hx1 hx2 hr hx hy rR h1 hw
    go_enter Try.func34, Try.ntmps34
    go_wp2_with (first
      | (have hgo := HR; clear hgo
         refine wpList_binR (o := ⟨some 7, _, _, _, _, _⟩) rfl .rem 3 3 _ _ rfl (fun _ => rfl) HR.out rfl rfl ?_
         clear HR))
    go_ret
    exact ⟨rfl, rfl⟩
end Go.Proofs.Ytnpifjimmeehdaa
