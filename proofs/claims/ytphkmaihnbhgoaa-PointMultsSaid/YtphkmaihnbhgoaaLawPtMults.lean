/- PointMults, walked. -/
import Derived.Test.YtphkmaihnbhgoaaMN5
namespace Go.Proofs.Ytphkmaihnbhgoaa
open Go.RowKit Go.Deep
set_option linter.unusedSimpArgs false
set_option linter.unusedVariables false

theorem tSame_to (t u : Nat × Nat × Nat) (b : Bool) (w : World) (h : LtT t) (k : LtT u) (hb : pSame t u = b) : Calls Try.prog 27 #[.agg (arrOf 48 (ptT t)), .agg (arrOf 48 (ptT u))] w fun e w' => e = .returned (.bool b) ∧ Below w.heap.size w w' := by
  rw [← hb]
  exact tSame_any t u w h k
theorem exec_fourB (ρ : Operand → Value) (x y z u : Operand) (t : TypeId) (w : World) (b c d e : UInt8) (hx : ρ x = .int .u8 (b.toNat : Int)) (hy : ρ y = .int .u8 (c.toNat : Int)) (hz : ρ z = .int .u8 (d.toNat : Int)) (hu : ρ u = .int .u8 (e.toNat : Int)) :
    (execOp ρ (mkOp (.buildSlice 22 4 #[(0, x), (1, y), (2, z), (3, u)]) t)).run Try.prog w = .ok (.value (.slice (some ⟨w.heap.size, 0, none⟩) 4 4)) (w.alloc (.cells #[.int .u8 (b.toNat : Int), .int .u8 (c.toNat : Int), .int .u8 (d.toNat : Int), .int .u8 (e.toNat : Int)] 5)) := by
  simp only [execOp, mkOp, List.map_toArray, List.map_cons, List.map_nil, hx, hy, hz, hu]
  go_simp
theorem wpList_fourB {ops : Array Oper} {rest : List Oper} {o : Oper} {a : Act} {w : World} {Q : Exit → Act → World → Prop} (hgd : o.guard = none) (x y z u : Operand) (ho : o.op = .buildSlice 22 4 #[(0, x), (1, y), (2, z), (3, u)]) (b c d e : UInt8) (hx : a.eval x = .int .u8 (b.toNat : Int)) (hy : a.eval y = .int .u8 (c.toNat : Int)) (hz : a.eval z = .int .u8 (d.toNat : Int)) (hu : a.eval u = .int .u8 (e.toNat : Int))
    (h : ∀ v w', Bs w' v [b, c, d, e] → Below w.heap.size w w' → wpList Try.prog ops Q rest (a.put o.dst v) w') : wpList Try.prog ops Q (o :: rest) a w := by
  have hr := exec_fourB a.eval x y z u o.type w b c d e hx hy hz hu
  exact wpList_plain hgd fun _ hK => by
    unfold Oper.wp
    rw [exec_mkOp, ho, hr]
    exact hK _ _ (h _ _ (Bs.litc w [b, c, d, e] (0, 0) 4 rfl (by unfold maxLen; omega)) ((Below.refl _ _).alloc (Nat.le_refl _) _))
theorem four_num (K : Nat) (B0 B1 B2 B3 : UInt8) (hK : K ≤ 2147483648) (h0 : B0.toNat = K % 256) (h1 : B1.toNat = K / 256 % 256) (h2 : B2.toNat = K / 65536 % 256) (h3 : B3.toNat = K / 16777216 % 256) : numL [B0, B1, B2, B3] 64 % ordL = K := by
  have e : numL [B0, B1, B2, B3] 64 = K := by
    rw [show 64 = 4 + 60 from rfl, numL_wanting [B0, B1, B2, B3] 4 (Nat.le_refl _) 60]
    show 0 + B0.toNat * 256 ^ 0 + B1.toNat * 256 ^ 1 + B2.toNat * 256 ^ 2 + B3.toNat * 256 ^ 3 = K
    rw [h0, h1, h2, h3]
    omega
  rw [e, Nat.mod_eq_of_lt (Nat.lt_of_le_of_lt hK (by decide +kernel))]
set_option maxHeartbeats 8000000 in
set_option maxRecDepth 100000 in
theorem law_pointMults (w : World) (v0 : Value) (l0 : List UInt8) (h0 : Bs w v0 l0) (v1 : Value) (l1 : List UInt8) (h1 : Bs w v1 l1) (x2 : Int) (w2 : (Lit.int .i64 x2).wf = true) : Calls Try.prog 4 #[v0, v1, .int .i64 x2] w fun e w' => e = .returned (.bool true) ∧ Below w.heap.size w w' := by
  obtain ⟨ad0, n0, c0, rfl, e0, y0, z0, hB0⟩ := h0.shape
  obtain ⟨ad1, n1, c1, rfl, e1, y1, z1, hB1⟩ := h1.shape
  by_cases d0 : n0 ≤ 100
  · have q0 : ¬ (100 : Int) < (n0 : Int) := by omega
    by_cases d1 : n1 ≤ 100
    · have q1 : ¬ (100 : Int) < (n1 : Int) := by omega
      by_cases d2 : 0 ≤ x2
      · have q2 : ¬ x2 < 0 := by omega
        by_cases d3 : x2 ≤ 2147483648
        · have q3 : ¬ (2147483648 : Int) < x2 := by omega
          have f_s0 := hB0
          have HF_s0 := Lib.hid hB0
          have f_s1 := hB1
          have HF_s1 := Lib.hid hB1
          have Bw0 := Below.refl w.heap.size w
          have HGS : Hid (∀ wq : World, Below w.heap.size w wq → w.heap.size ≤ wq.heap.size) := Lib.hid fun wq h => h.size
          obtain ⟨A, hA⟩ := nat_var (numL (l0) 64 % ordL)
          have HA : Hid (A < ordL) := Lib.hid (by rw [hA]; exact Nat.mod_lt _ ordL_pos)
          have HNA := Lib.hid hA.symm
          clear hA
          obtain ⟨C, hC⟩ := nat_var (numL (l1) 64 % ordL)
          have HC : Hid (C < ordL) := Lib.hid (by rw [hC]; exact Nat.mod_lt _ ordL_pos)
          have HNC := Lib.hid hC.symm
          clear hC
          obtain ⟨K, rfl⟩ : ∃ K : Nat, x2 = (K : Int) := ⟨x2.toNat, by omega⟩
          have HKL : Hid (K ≤ 2147483648) := Lib.hid (by omega)
          have HKO : Hid (K < ordL) := Lib.hid (Nat.lt_of_le_of_lt HKL.out (by decide +kernel))
          obtain ⟨B0, hB0_⟩ : ∃ B : UInt8, B.toNat = K % 256 := ⟨UInt8.ofNat (K % 256), UInt8.toNat_ofNat_of_lt' (Nat.mod_lt _ (by decide))⟩
          obtain ⟨B1, hB1_⟩ : ∃ B : UInt8, B.toNat = K / 256 % 256 := ⟨UInt8.ofNat (K / 256 % 256), UInt8.toNat_ofNat_of_lt' (Nat.mod_lt _ (by decide))⟩
          obtain ⟨B2, hB2_⟩ : ∃ B : UInt8, B.toNat = K / 65536 % 256 := ⟨UInt8.ofNat (K / 65536 % 256), UInt8.toNat_ofNat_of_lt' (Nat.mod_lt _ (by decide))⟩
          obtain ⟨B3, hB3_⟩ : ∃ B : UInt8, B.toNat = K / 16777216 % 256 := ⟨UInt8.ofNat (K / 16777216 % 256), UInt8.toNat_ofNat_of_lt' (Nat.mod_lt _ (by decide))⟩
          have HN4 := Lib.hid (four_num K B0 B1 B2 B3 HKL.out hB0_ hB1_ hB2_ hB3_)
          have Z0 : Hid ((K : Int) % 256 = ((B0.toNat : Nat) : Int)) := Lib.hid (by omega)
          have Z1 : Hid ((K : Int) / 256 % 256 = ((B1.toNat : Nat) : Int)) := Lib.hid (by omega)
          have Z2 : Hid ((K : Int) / 65536 % 256 = ((B2.toNat : Nat) : Int)) := Lib.hid (by omega)
          have Z3 : Hid ((K : Int) / 16777216 = ((B3.toNat : Nat) : Int)) := Lib.hid (by have h := HKL.out; omega)
          have HSM : Hid (qSame (qMul bT A) (qMul bT C) = pSame (pmul dP bT A) (pmul dP bT C)) := Lib.hid ((RQ.same (RQ.mul RQ.base HA.out) (RQ.mul RQ.base HC.out)).trans (RT.same (RT.mul RT.base (Nat.lt_trans HA.out ordL_256)) (RT.mul RT.base (Nat.lt_trans HC.out ordL_256))).symm)
          obtain ⟨sb, hsb⟩ : ∃ sb, sb = pSame (pmul dP bT A) (pmul dP bT C) := ⟨_, rfl⟩
          rw [← hsb] at HSM
          have HSB := Lib.hid hsb.symm
          clear hB0_ hB1_ hB2_ hB3_ hsb w2
          clear h0 hB0 e0 h1 hB1 e1 d0 d1 d2 d3
          go_enter Try.func4, Try.ntmps4
          go_wp2_with (first
            | (have hgo := Bw0; clear hgo
               go_at_call 16
               refine (qTBase_any _).mono ?_
               rintro e w17 ⟨rfl, kk⟩
               replace f_s0 := zfb f_s0 kk
               replace f_s1 := zfb f_s1 kk
               have Bw1 := zbt HGS Bw0 kk
               clear Bw0 kk)
            | (have hgo := Bw1; clear hgo
               go_at_call 18
               refine (sWide_to _ (l0) _ f_s0 (A) HNA.out).mono ?_
               rintro e w19 ⟨rfl, kk⟩
               replace f_s0 := zfb f_s0 kk
               replace f_s1 := zfb f_s1 kk
               have Bw2 := zbt HGS Bw1 kk
               clear Bw1 kk)
            | (have hgo := Bw2; clear hgo
               go_at_call 17
               refine (qTMul_any bT A _ LtT.base).mono ?_
               rintro e w20 ⟨rfl, kk⟩
               replace f_s0 := zfb f_s0 kk
               replace f_s1 := zfb f_s1 kk
               have Bw3 := zbt HGS Bw2 kk
               clear Bw2 kk)
            | (have hgo := Bw3; clear hgo
               refine wpList_alloc_row rfl 29 rfl 12 (u64f fun _ => 0) zeroQ ?_
               intro b_t7 w21 lk r_t7 kk
               have l_t7 := zrl HGS Bw3 lk
               have a_s0_t7 := Bs.away f_s0 lk
               have a_s1_t7 := Bs.away f_s1 lk
               replace f_s0 := zfb f_s0 kk
               replace f_s1 := zfb f_s1 kk
               have Bw4 := zbt HGS Bw3 kk
               clear Bw3 kk lk
               replace r_t7 := World.rowIs.congr r_t7 zeroQT)
            | (have hgo := Bw4; clear hgo
               refine wpList_store_as rfl 29 (.tmp 7) (.tmp 32) rfl 12 (qT (qMul bT A)) arrQ r_t7 rfl rfl (by omega) (fun j _ => qF_one _ _ _ j) (fun i hi => putN_whole hi) ?_
               intro w22 q gk
               replace r_t7 := q
               have Bw5 := zbg HGS Bw4 gk l_t7
               replace f_s0 := gb_bs f_s0 gk a_s0_t7
               replace f_s1 := gb_bs f_s1 gk a_s1_t7
               clear Bw4 gk q)
            | (have hgo := Bw5; clear hgo
               go_at_call 19
               refine (tBase_any _).mono ?_
               rintro e w23 ⟨rfl, kk⟩
               replace r_t7 := zrb r_t7 kk
               replace f_s0 := zfb f_s0 kk
               replace f_s1 := zfb f_s1 kk
               have Bw6 := zbt HGS Bw5 kk
               clear Bw5 kk)
            | (have hgo := Bw6; clear hgo
               go_at_call 21
               refine (refWide_to _ (l0) _ f_s0 (A) HNA.out).mono ?_
               rintro e w25 ⟨rfl, kk⟩
               replace r_t7 := zrb r_t7 kk
               replace f_s0 := zfb f_s0 kk
               replace f_s1 := zfb f_s1 kk
               have Bw7 := zbt HGS Bw6 kk
               clear Bw6 kk)
            | (have hgo := Bw7; clear hgo
               go_at_call 20
               refine (tMult_any bT A _ LtT.base).mono ?_
               rintro e w26 ⟨rfl, kk⟩
               replace r_t7 := zrb r_t7 kk
               replace f_s0 := zfb f_s0 kk
               replace f_s1 := zfb f_s1 kk
               have Bw8 := zbt HGS Bw7 kk
               clear Bw7 kk)
            | (have hgo := Bw8; clear hgo
               refine wpList_alloc_row rfl 36 rfl 48 (u64f fun _ => 0) zeroPt ?_
               intro b_t8 w27 lk r_t8 kk
               have n_t7_t8 := zrn r_t7 lk
               have l_t8 := zrl HGS Bw8 lk
               have a_s0_t8 := Bs.away f_s0 lk
               have a_s1_t8 := Bs.away f_s1 lk
               replace r_t7 := zrb r_t7 kk
               replace f_s0 := zfb f_s0 kk
               replace f_s1 := zfb f_s1 kk
               have Bw9 := zbt HGS Bw8 kk
               clear Bw8 kk lk)
            | (have hgo := Bw9; clear hgo
               refine wpList_store_as rfl 36 (.tmp 8) (.tmp 36) rfl 48 (ptT (pmul dP bT A)) arrP r_t8 rfl rfl (by omega) (fun j _ => ptF_one _ _ _ j) (fun i hi => putN_whole hi) ?_
               intro w28 q gk
               replace r_t7 := gb_rowIs r_t7 gk n_t7_t8
               replace r_t8 := q
               have Bw10 := zbg HGS Bw9 gk l_t8
               replace f_s0 := gb_bs f_s0 gk a_s0_t8
               replace f_s1 := gb_bs f_s1 gk a_s1_t8
               clear Bw9 gk q)
            | (have hgo := Bw10; clear hgo
               go_at_call 16
               refine (qTBase_any _).mono ?_
               rintro e w29 ⟨rfl, kk⟩
               replace r_t7 := zrb r_t7 kk
               replace r_t8 := zrb r_t8 kk
               replace f_s0 := zfb f_s0 kk
               replace f_s1 := zfb f_s1 kk
               have Bw11 := zbt HGS Bw10 kk
               clear Bw10 kk)
            | (have hgo := Bw11; clear hgo
               go_at_call 18
               refine (sWide_to _ (l1) _ f_s1 (C) HNC.out).mono ?_
               rintro e w31 ⟨rfl, kk⟩
               replace r_t7 := zrb r_t7 kk
               replace r_t8 := zrb r_t8 kk
               replace f_s0 := zfb f_s0 kk
               replace f_s1 := zfb f_s1 kk
               have Bw12 := zbt HGS Bw11 kk
               clear Bw11 kk)
            | (have hgo := Bw12; clear hgo
               go_at_call 17
               refine (qTMul_any bT C _ LtT.base).mono ?_
               rintro e w32 ⟨rfl, kk⟩
               replace r_t7 := zrb r_t7 kk
               replace r_t8 := zrb r_t8 kk
               replace f_s0 := zfb f_s0 kk
               replace f_s1 := zfb f_s1 kk
               have Bw13 := zbt HGS Bw12 kk
               clear Bw12 kk)
            | (have hgo := Bw13; clear hgo
               refine wpList_alloc_row rfl 29 rfl 12 (u64f fun _ => 0) zeroQ ?_
               intro b_t9 w33 lk r_t9 kk
               have n_t7_t9 := zrn r_t7 lk
               have n_t8_t9 := zrn r_t8 lk
               have l_t9 := zrl HGS Bw13 lk
               have a_s0_t9 := Bs.away f_s0 lk
               have a_s1_t9 := Bs.away f_s1 lk
               replace r_t7 := zrb r_t7 kk
               replace r_t8 := zrb r_t8 kk
               replace f_s0 := zfb f_s0 kk
               replace f_s1 := zfb f_s1 kk
               have Bw14 := zbt HGS Bw13 kk
               clear Bw13 kk lk
               replace r_t9 := World.rowIs.congr r_t9 zeroQT)
            | (have hgo := Bw14; clear hgo
               refine wpList_store_as rfl 29 (.tmp 9) (.tmp 40) rfl 12 (qT (qMul bT C)) arrQ r_t9 rfl rfl (by omega) (fun j _ => qF_one _ _ _ j) (fun i hi => putN_whole hi) ?_
               intro w34 q gk
               replace r_t7 := gb_rowIs r_t7 gk n_t7_t9
               replace r_t8 := gb_rowIs r_t8 gk n_t8_t9
               replace r_t9 := q
               have Bw15 := zbg HGS Bw14 gk l_t9
               replace f_s0 := gb_bs f_s0 gk a_s0_t9
               replace f_s1 := gb_bs f_s1 gk a_s1_t9
               clear Bw14 gk q)
            | (have hgo := Bw15; clear hgo
               go_at_call 19
               refine (tBase_any _).mono ?_
               rintro e w35 ⟨rfl, kk⟩
               replace r_t7 := zrb r_t7 kk
               replace r_t8 := zrb r_t8 kk
               replace r_t9 := zrb r_t9 kk
               replace f_s0 := zfb f_s0 kk
               replace f_s1 := zfb f_s1 kk
               have Bw16 := zbt HGS Bw15 kk
               clear Bw15 kk)
            | (have hgo := Bw16; clear hgo
               go_at_call 21
               refine (refWide_to _ (l1) _ f_s1 (C) HNC.out).mono ?_
               rintro e w37 ⟨rfl, kk⟩
               replace r_t7 := zrb r_t7 kk
               replace r_t8 := zrb r_t8 kk
               replace r_t9 := zrb r_t9 kk
               replace f_s0 := zfb f_s0 kk
               replace f_s1 := zfb f_s1 kk
               have Bw17 := zbt HGS Bw16 kk
               clear Bw16 kk)
            | (have hgo := Bw17; clear hgo
               go_at_call 20
               refine (tMult_any bT C _ LtT.base).mono ?_
               rintro e w38 ⟨rfl, kk⟩
               replace r_t7 := zrb r_t7 kk
               replace r_t8 := zrb r_t8 kk
               replace r_t9 := zrb r_t9 kk
               replace f_s0 := zfb f_s0 kk
               replace f_s1 := zfb f_s1 kk
               have Bw18 := zbt HGS Bw17 kk
               clear Bw17 kk)
            | (have hgo := Bw18; clear hgo
               refine wpList_alloc_row rfl 36 rfl 48 (u64f fun _ => 0) zeroPt ?_
               intro b_t10 w39 lk r_t10 kk
               have n_t7_t10 := zrn r_t7 lk
               have n_t8_t10 := zrn r_t8 lk
               have n_t9_t10 := zrn r_t9 lk
               have l_t10 := zrl HGS Bw18 lk
               have a_s0_t10 := Bs.away f_s0 lk
               have a_s1_t10 := Bs.away f_s1 lk
               replace r_t7 := zrb r_t7 kk
               replace r_t8 := zrb r_t8 kk
               replace r_t9 := zrb r_t9 kk
               replace f_s0 := zfb f_s0 kk
               replace f_s1 := zfb f_s1 kk
               have Bw19 := zbt HGS Bw18 kk
               clear Bw18 kk lk)
            | (have hgo := Bw19; clear hgo
               refine wpList_store_as rfl 36 (.tmp 10) (.tmp 44) rfl 48 (ptT (pmul dP bT C)) arrP r_t10 rfl rfl (by omega) (fun j _ => ptF_one _ _ _ j) (fun i hi => putN_whole hi) ?_
               intro w40 q gk
               replace r_t7 := gb_rowIs r_t7 gk n_t7_t10
               replace r_t8 := gb_rowIs r_t8 gk n_t8_t10
               replace r_t9 := gb_rowIs r_t9 gk n_t9_t10
               replace r_t10 := q
               have Bw20 := zbg HGS Bw19 gk l_t10
               replace f_s0 := gb_bs f_s0 gk a_s0_t10
               replace f_s1 := gb_bs f_s1 gk a_s1_t10
               clear Bw19 gk q)
            | (have hgo := Bw20; clear hgo
               refine wpList_fourB rfl (.tmp 46) (.tmp 49) (.tmp 52) (.tmp 55) rfl B0 B1 B2 B3 (congrArg (Value.int .u8) Z0.out) (congrArg (Value.int .u8) Z1.out) (congrArg (Value.int .u8) Z2.out) (congrArg (Value.int .u8) Z3.out) ?_
               intro v_s56 w41 f_s56 kk
               replace r_t7 := zrb r_t7 kk
               replace r_t8 := zrb r_t8 kk
               replace r_t9 := zrb r_t9 kk
               replace r_t10 := zrb r_t10 kk
               replace f_s0 := zfb f_s0 kk
               replace f_s1 := zfb f_s1 kk
               have Bw21 := zbt HGS Bw20 kk
               clear Bw20 kk))
          have Bw22 := Bw21.drew
          replace r_t7 := World.rowIs.drew r_t7
          replace r_t8 := World.rowIs.drew r_t8
          replace r_t9 := World.rowIs.drew r_t9
          replace r_t10 := World.rowIs.drew r_t10
          replace f_s0 := Bs.drew f_s0
          replace f_s1 := Bs.drew f_s1
          replace f_s56 := Bs.drew f_s56
          clear Bw21
          refine zpo [] (.rd 0 (.rd 1 .done)) #[true, true, false, false, false, false, false, false, false, false, false, false, false, false, false, false, false, false, false, false, false, false, false, false, false, false, false, false, false, false, false, false, false, false, false, false, false, false, false, false, false, false] [2, 3, 4, 5, 6, 7, 8, 9, 10, 11, 12, 13, 14, 15, 16, 17, 18, 19, 20, 21, 22, 23, 24, 25, 26, 27, 28, 29, 30, 31, 32, 33, 34, 35, 36, 37, 38, 39, 40, 41] [some 59, some 60, some 61, some 62, some 63, some 64, some 65, some 66, some 67, some 68, some 69, some 70, some 71, some 72, some 73, some 74, some 75, some 76, some 77, some 78, some 79, some 80, some 81, some 82, some 83, some 84, some 85, some 86, some 87, some 88, some 89, some 90, some 91, some 92, some 93, some 94, some 95, some 96, some 97, some 6] [[], [0], [1], [1], [1, 2, 3], [1], [1], [1, 4, 5, 6], [1, 4, 7], [1, 8], [8, 9], [10], [10, 11], [10], [10, 12, 13], [10, 12, 14], [10, 15], [15, 16], [17], [17], [17, 18, 19], [17], [17], [17, 20, 21, 22], [17, 20, 23], [17, 24], [23, 25], [26], [26], [26, 27, 28], [26], [26], [26, 29, 31], [26, 30, 32], [26, 29, 33], [26, 34], [34, 35], [36], [36, 37], [0, 1, 2, 3, 4, 5, 6, 7, 8, 9, 10, 11, 12, 13, 14, 15, 16, 17, 18, 19, 20, 21, 22, 23, 24, 25, 26, 27, 28, 29, 30, 31, 32, 33, 34, 35, 36, 37, 38]] [(0, []), (1, []), (2, [0, 1]), (3, [2, 2]), (4, [3]), (5, [3]), (6, [4, 5, 3, 3]), (7, [3]), (8, [3]), (9, [7, 8, 6, 3]), (10, [6, 9, 9, 3]), (11, [3, 10]), (12, [11, 10]), (13, [12]), (14, [13, 12, 12]), (15, [12]), (16, [15, 14, 12]), (17, [14, 16, 16, 12]), (18, [12, 17]), (19, [18, 17]), (20, [19]), (21, [19]), (22, [20, 21, 19, 19]), (23, [19]), (24, [19]), (25, [23, 24, 22, 19]), (26, [22, 25, 19]), (27, [19, 26]), (28, [27, 25]), (29, [28]), (30, [28]), (31, [29, 30, 28, 28]), (32, [28]), (33, [28]), (34, [33, 31, 28]), (35, [32, 34, 34, 28]), (36, [31, 35, 35, 28]), (37, [28, 36]), (38, [37, 36]), (39, [38, 38]), (40, [38, 39]), (41, [40, 39, 0, 1, 2, 3, 4, 5, 6, 7, 8, 9, 10, 11, 12, 13, 14, 15, 16, 17, 18, 19, 20, 21, 22, 23, 24, 25, 26, 27, 28, 29, 30, 31, 32, 33, 34, 35, 36, 37, 38, 39, 40])] 3 ?_
          refine zld (qT (qMul bT A)) arrQ r_t7 rfl (fun i hi => by rw [Nat.zero_add]) rfl rfl rfl rfl rfl (by omega) ?_
          refine zld (ptT (pmul dP bT A)) arrP r_t8 rfl (fun i hi => by rw [Nat.zero_add]) rfl rfl rfl rfl rfl (by omega) ?_
          simp only [Act.put, zA, zB, zC]
          refine lintz_leaf ?_
          refine po_start [.val (.bool true), .val (.bool true), .val (.agg (arrOf 12 (qT (qMul bT A)))), .val (.agg (arrOf 12 (qT (qMul bT C)))), .val (.agg (arrOf 12 (qT (qAdd (qMul bT A) (qMul bT C))))), .val (.agg (arrOf 48 (ptT (pmul dP bT A)))), .val (.agg (arrOf 48 (ptT (pmul dP bT C)))), .val (.agg (arrOf 48 (ptT (padd dP (pmul dP bT A) (pmul dP bT C))))), .val (.bool true), .val (.bool true), .val (.bool true), .val (.agg (arrOf 12 (qT (qMul bT A)))), .val (.agg (arrOf 12 (qT (pneg (qMul bT A))))), .val (.agg (arrOf 48 (ptT (pmul dP bT A)))), .val (.agg (arrOf 48 (ptT (pneg (pmul dP bT A))))), .val (.bool true), .val (.bool true), .val (.bool true), .val (.agg (arrOf 12 (qT (qMul bT A)))), .val (.agg (arrOf 12 (qT (qMul bT C)))), .val (.bool sb), .val (.agg (arrOf 48 (ptT (pmul dP bT A)))), .val (.agg (arrOf 48 (ptT (pmul dP bT C)))), .val (.bool sb), .val (.bool true), .val (.bool true), .val (.bool true), .val (.agg (arrOf 12 (qT (qMul bT A)))), .val (.int .i64 (K : Int)), .val (.agg (arrOf 12 (qT (qTim (qMul bT A) K)))), .val (.agg (arrOf 48 (ptT (pmul dP bT A)))), .val (v_s56), .val (.agg (arrOf 32 (bF 32 K))), .val (.agg (arrOf 48 (ptT (pmul dP (pmul dP bT A) K)))), .val (.bool true), .val (.bool true), .val (.bool true), .val (.bool true), .val (.bool true), .val (.bool true)] [] (fun i hi => absurd hi (Nat.not_lt_zero _)) (fun HWF m gz wa p az hp hm hmp hcl hdn hE hJ hS hO => ?_) (fun gz wa hE hJ => ?_)
          · rcases (show p = 0 ∨ p = 1 ∨ p = 2 ∨ p = 3 ∨ p = 4 ∨ p = 5 ∨ p = 6 ∨ p = 7 ∨ p = 8 ∨ p = 9 ∨ p = 10 ∨ p = 11 ∨ p = 12 ∨ p = 13 ∨ p = 14 ∨ p = 15 ∨ p = 16 ∨ p = 17 ∨ p = 18 ∨ p = 19 ∨ p = 20 ∨ p = 21 ∨ p = 22 ∨ p = 23 ∨ p = 24 ∨ p = 25 ∨ p = 26 ∨ p = 27 ∨ p = 28 ∨ p = 29 ∨ p = 30 ∨ p = 31 ∨ p = 32 ∨ p = 33 ∨ p = 34 ∨ p = 35 ∨ p = 36 ∨ p = 37 ∨ p = 38 ∨ p = 39 by have h9 : p < 40 := hp; omega) with rfl | rfl | rfl | rfl | rfl | rfl | rfl | rfl | rfl | rfl | rfl | rfl | rfl | rfl | rfl | rfl | rfl | rfl | rfl | rfl | rfl | rfl | rfl | rfl | rfl | rfl | rfl | rfl | rfl | rfl | rfl | rfl | rfl | rfl | rfl | rfl | rfl | rfl | rfl | rfl
            · have e57 : az.eval (.tmp 57) = .agg (arrOf 12 (qT (qMul bT A))) := hO 57 rfl
              have e58 : az.eval (.tmp 58) = .agg (arrOf 48 (ptT (pmul dP bT A))) := hO 58 rfl
              exact po_k HWF hJ hE (is8_any (qMul bT A) (pmul dP bT A) _ (LtT.oft _ _ _) (LtT.mul _ _) ((RQ.mul RQ.base HA.out).enc.trans (RT.mul RT.base (Nat.lt_trans HA.out ordL_256)).enc.symm)) rfl rfl rfl rfl rfl rfl (ar2 e57 e58)
            · exact po_p _ HWF hJ hE rfl rfl rfl rfl rfl rfl rfl (x_move (po_e hS hdn hJ 0 59 rfl rfl rfl rfl))
            · have e7 : az.eval (.tmp 7) = .pointer (some ⟨b_t7, 0, none⟩) := hO 7 rfl
              exact po_p _ HWF hJ hE rfl rfl rfl rfl rfl rfl (wanted_of rfl rfl (po_e hS hdn hJ 1 60 rfl rfl rfl rfl)) (exec_load_as _ _ _ _ (qT (qMul bT A)) e7 arrQ (Keep.row hE r_t7 rfl) (by omega) (fun i hi => by rw [Nat.zero_add]))
            · have e9 : az.eval (.tmp 9) = .pointer (some ⟨b_t9, 0, none⟩) := hO 9 rfl
              exact po_p _ HWF hJ hE rfl rfl rfl rfl rfl rfl (wanted_of rfl rfl (po_e hS hdn hJ 1 60 rfl rfl rfl rfl)) (exec_load_as _ _ _ _ (qT (qMul bT C)) e9 arrQ (Keep.row hE r_t9 rfl) (by omega) (fun i hi => by rw [Nat.zero_add]))
            · exact po_k HWF hJ hE (qTAdd_any (qMul bT A) (qMul bT C) _ (LtT.oft _ _ _) (LtT.oft _ _ _)) rfl rfl rfl rfl rfl (wanted_of rfl rfl (po_e hS hdn hJ 1 60 rfl rfl rfl rfl)) (ar2 (po_e hS hdn hJ 2 61 rfl rfl rfl rfl) (po_e hS hdn hJ 3 62 rfl rfl rfl rfl))
            · have e8 : az.eval (.tmp 8) = .pointer (some ⟨b_t8, 0, none⟩) := hO 8 rfl
              exact po_p _ HWF hJ hE rfl rfl rfl rfl rfl rfl (wanted_of rfl rfl (po_e hS hdn hJ 1 60 rfl rfl rfl rfl)) (exec_load_as _ _ _ _ (ptT (pmul dP bT A)) e8 arrP (Keep.row hE r_t8 rfl) (by omega) (fun i hi => by rw [Nat.zero_add]))
            · have e10 : az.eval (.tmp 10) = .pointer (some ⟨b_t10, 0, none⟩) := hO 10 rfl
              exact po_p _ HWF hJ hE rfl rfl rfl rfl rfl rfl (wanted_of rfl rfl (po_e hS hdn hJ 1 60 rfl rfl rfl rfl)) (exec_load_as _ _ _ _ (ptT (pmul dP bT C)) e10 arrP (Keep.row hE r_t10 rfl) (by omega) (fun i hi => by rw [Nat.zero_add]))
            · exact po_k HWF hJ hE (tAdd_any (pmul dP bT A) (pmul dP bT C) _ (LtT.mul _ _) (LtT.mul _ _)) rfl rfl rfl rfl rfl (wanted_of rfl rfl (po_e hS hdn hJ 1 60 rfl rfl rfl rfl)) (ar2 (po_e hS hdn hJ 5 64 rfl rfl rfl rfl) (po_e hS hdn hJ 6 65 rfl rfl rfl rfl))
            · exact po_k HWF hJ hE (is8_any (qAdd (qMul bT A) (qMul bT C)) (padd dP (pmul dP bT A) (pmul dP bT C)) _ (LtT.qAdd _ _) (LtT.add _ _) ((RQ.add (RQ.mul RQ.base HA.out) (RQ.mul RQ.base HC.out)).enc.trans (RT.add (RT.mul RT.base (Nat.lt_trans HA.out ordL_256)) (RT.mul RT.base (Nat.lt_trans HC.out ordL_256))).enc.symm)) rfl rfl rfl rfl rfl (wanted_of rfl rfl (po_e hS hdn hJ 1 60 rfl rfl rfl rfl)) (ar2 (po_e hS hdn hJ 4 63 rfl rfl rfl rfl) (po_e hS hdn hJ 7 66 rfl rfl rfl rfl))
            · have e60 := po_e hS hdn hJ 1 60 rfl rfl rfl rfl
              have e67 := po_e hS hdn hJ 8 67 rfl rfl rfl rfl
              exact po_p (Op.pick (Operand.tmp 60) (Operand.tmp 67) (Operand.const (Value.bool false))) HWF hJ hE rfl rfl rfl rfl rfl rfl rfl (by first | (simp only [execOp, mkOp, eval_const, e60, e67]; done) | (simp only [execOp, mkOp, eval_const, e60, e67]; go_simp))
            · exact po_p _ HWF hJ hE rfl rfl rfl rfl rfl rfl rfl (x_move (po_e hS hdn hJ 9 68 rfl rfl rfl rfl))
            · have e7 : az.eval (.tmp 7) = .pointer (some ⟨b_t7, 0, none⟩) := hO 7 rfl
              exact po_p _ HWF hJ hE rfl rfl rfl rfl rfl rfl (wanted_of rfl rfl (po_e hS hdn hJ 10 69 rfl rfl rfl rfl)) (exec_load_as _ _ _ _ (qT (qMul bT A)) e7 arrQ (Keep.row hE r_t7 rfl) (by omega) (fun i hi => by rw [Nat.zero_add]))
            · exact po_k HWF hJ hE (qTNeg_any (qMul bT A) _ (LtT.oft _ _ _)) rfl rfl rfl rfl rfl (wanted_of rfl rfl (po_e hS hdn hJ 10 69 rfl rfl rfl rfl)) (ar1 (po_e hS hdn hJ 11 70 rfl rfl rfl rfl))
            · have e8 : az.eval (.tmp 8) = .pointer (some ⟨b_t8, 0, none⟩) := hO 8 rfl
              exact po_p _ HWF hJ hE rfl rfl rfl rfl rfl rfl (wanted_of rfl rfl (po_e hS hdn hJ 10 69 rfl rfl rfl rfl)) (exec_load_as _ _ _ _ (ptT (pmul dP bT A)) e8 arrP (Keep.row hE r_t8 rfl) (by omega) (fun i hi => by rw [Nat.zero_add]))
            · exact po_k HWF hJ hE (tNeg_any (pmul dP bT A) _ (LtT.mul _ _)) rfl rfl rfl rfl rfl (wanted_of rfl rfl (po_e hS hdn hJ 10 69 rfl rfl rfl rfl)) (ar1 (po_e hS hdn hJ 13 72 rfl rfl rfl rfl))
            · exact po_k HWF hJ hE (is8_any (pneg (qMul bT A)) (pneg (pmul dP bT A)) _ (LtT.neg (LtT.oft _ _ _)) (LtT.neg (LtT.mul _ _)) ((RQ.neg (RQ.mul RQ.base HA.out)).enc.trans (RT.neg (RT.mul RT.base (Nat.lt_trans HA.out ordL_256))).enc.symm)) rfl rfl rfl rfl rfl (wanted_of rfl rfl (po_e hS hdn hJ 10 69 rfl rfl rfl rfl)) (ar2 (po_e hS hdn hJ 12 71 rfl rfl rfl rfl) (po_e hS hdn hJ 14 73 rfl rfl rfl rfl))
            · have e69 := po_e hS hdn hJ 10 69 rfl rfl rfl rfl
              have e74 := po_e hS hdn hJ 15 74 rfl rfl rfl rfl
              exact po_p (Op.pick (Operand.tmp 69) (Operand.tmp 74) (Operand.const (Value.bool false))) HWF hJ hE rfl rfl rfl rfl rfl rfl rfl (by first | (simp only [execOp, mkOp, eval_const, e69, e74]; done) | (simp only [execOp, mkOp, eval_const, e69, e74]; go_simp))
            · exact po_p _ HWF hJ hE rfl rfl rfl rfl rfl rfl rfl (x_move (po_e hS hdn hJ 16 75 rfl rfl rfl rfl))
            · have e7 : az.eval (.tmp 7) = .pointer (some ⟨b_t7, 0, none⟩) := hO 7 rfl
              exact po_p _ HWF hJ hE rfl rfl rfl rfl rfl rfl (wanted_of rfl rfl (po_e hS hdn hJ 17 76 rfl rfl rfl rfl)) (exec_load_as _ _ _ _ (qT (qMul bT A)) e7 arrQ (Keep.row hE r_t7 rfl) (by omega) (fun i hi => by rw [Nat.zero_add]))
            · have e9 : az.eval (.tmp 9) = .pointer (some ⟨b_t9, 0, none⟩) := hO 9 rfl
              exact po_p _ HWF hJ hE rfl rfl rfl rfl rfl rfl (wanted_of rfl rfl (po_e hS hdn hJ 17 76 rfl rfl rfl rfl)) (exec_load_as _ _ _ _ (qT (qMul bT C)) e9 arrQ (Keep.row hE r_t9 rfl) (by omega) (fun i hi => by rw [Nat.zero_add]))
            · exact po_k HWF hJ hE (qTSame_to (qMul bT A) (qMul bT C) sb _ (LtT.oft _ _ _) (LtT.oft _ _ _) HSM.out) rfl rfl rfl rfl rfl (wanted_of rfl rfl (po_e hS hdn hJ 17 76 rfl rfl rfl rfl)) (ar2 (po_e hS hdn hJ 18 77 rfl rfl rfl rfl) (po_e hS hdn hJ 19 78 rfl rfl rfl rfl))
            · have e8 : az.eval (.tmp 8) = .pointer (some ⟨b_t8, 0, none⟩) := hO 8 rfl
              exact po_p _ HWF hJ hE rfl rfl rfl rfl rfl rfl (wanted_of rfl rfl (po_e hS hdn hJ 17 76 rfl rfl rfl rfl)) (exec_load_as _ _ _ _ (ptT (pmul dP bT A)) e8 arrP (Keep.row hE r_t8 rfl) (by omega) (fun i hi => by rw [Nat.zero_add]))
            · have e10 : az.eval (.tmp 10) = .pointer (some ⟨b_t10, 0, none⟩) := hO 10 rfl
              exact po_p _ HWF hJ hE rfl rfl rfl rfl rfl rfl (wanted_of rfl rfl (po_e hS hdn hJ 17 76 rfl rfl rfl rfl)) (exec_load_as _ _ _ _ (ptT (pmul dP bT C)) e10 arrP (Keep.row hE r_t10 rfl) (by omega) (fun i hi => by rw [Nat.zero_add]))
            · exact po_k HWF hJ hE (tSame_to (pmul dP bT A) (pmul dP bT C) sb _ (LtT.mul _ _) (LtT.mul _ _) HSB.out) rfl rfl rfl rfl rfl (wanted_of rfl rfl (po_e hS hdn hJ 17 76 rfl rfl rfl rfl)) (ar2 (po_e hS hdn hJ 21 80 rfl rfl rfl rfl) (po_e hS hdn hJ 22 81 rfl rfl rfl rfl))
            · have e76 := po_e hS hdn hJ 17 76 rfl rfl rfl rfl
              have e79 := po_e hS hdn hJ 20 79 rfl rfl rfl rfl
              have e82 := po_e hS hdn hJ 23 82 rfl rfl rfl rfl
              exact po_p (Op.binOp BinOp.eql 4 (Operand.tmp 79) (Operand.tmp 82) 4) HWF hJ hE rfl rfl rfl rfl rfl rfl (wanted_of rfl rfl e76) (by simp only [execOp, mkOp, eval_const, e79, e82]; go_simp)
            · have e76 := po_e hS hdn hJ 17 76 rfl rfl rfl rfl
              have e83 := po_e hS hdn hJ 24 83 rfl rfl rfl rfl
              exact po_p (Op.pick (Operand.tmp 76) (Operand.tmp 83) (Operand.const (Value.bool false))) HWF hJ hE rfl rfl rfl rfl rfl rfl rfl (by first | (simp only [execOp, mkOp, eval_const, e76, e83]; done) | (simp only [execOp, mkOp, eval_const, e76, e83]; go_simp))
            · exact po_p _ HWF hJ hE rfl rfl rfl rfl rfl rfl rfl (x_move (po_e hS hdn hJ 25 84 rfl rfl rfl rfl))
            · have e7 : az.eval (.tmp 7) = .pointer (some ⟨b_t7, 0, none⟩) := hO 7 rfl
              exact po_p _ HWF hJ hE rfl rfl rfl rfl rfl rfl (wanted_of rfl rfl (po_e hS hdn hJ 26 85 rfl rfl rfl rfl)) (exec_load_as _ _ _ _ (qT (qMul bT A)) e7 arrQ (Keep.row hE r_t7 rfl) (by omega) (fun i hi => by rw [Nat.zero_add]))
            · have e2 : az.eval (.tmp 2) = .int .i64 (K : Int) := hO 2 rfl
              exact po_p _ HWF hJ hE rfl rfl rfl rfl rfl rfl (wanted_of rfl rfl (po_e hS hdn hJ 26 85 rfl rfl rfl rfl)) (x_move e2)
            · exact po_k HWF hJ hE (pTimes_in (qMul bT A) K _ (LtT.oft _ _ _) HKL.out) rfl rfl rfl rfl rfl (wanted_of rfl rfl (po_e hS hdn hJ 26 85 rfl rfl rfl rfl)) (ar2 (po_e hS hdn hJ 27 86 rfl rfl rfl rfl) (po_e hS hdn hJ 28 87 rfl rfl rfl rfl))
            · have e8 : az.eval (.tmp 8) = .pointer (some ⟨b_t8, 0, none⟩) := hO 8 rfl
              exact po_p _ HWF hJ hE rfl rfl rfl rfl rfl rfl (wanted_of rfl rfl (po_e hS hdn hJ 26 85 rfl rfl rfl rfl)) (exec_load_as _ _ _ _ (ptT (pmul dP bT A)) e8 arrP (Keep.row hE r_t8 rfl) (by omega) (fun i hi => by rw [Nat.zero_add]))
            · have e11 : az.eval (.tmp 11) = v_s56 := hO 11 rfl
              exact po_p _ HWF hJ hE rfl rfl rfl rfl rfl rfl (wanted_of rfl rfl (po_e hS hdn hJ 26 85 rfl rfl rfl rfl)) (x_move e11)
            · exact po_k HWF hJ hE (refWide_to _ ([B0, B1, B2, B3]) _ (Bs.below f_s56 (Keep.nil hE) (Nat.le_refl _)) (K) HN4.out) rfl rfl rfl rfl rfl (wanted_of rfl rfl (po_e hS hdn hJ 26 85 rfl rfl rfl rfl)) (ar1 (po_e hS hdn hJ 31 90 rfl rfl rfl rfl))
            · exact po_k HWF hJ hE (tMult_any (pmul dP bT A) K _ (LtT.mul _ _)) rfl rfl rfl rfl rfl (wanted_of rfl rfl (po_e hS hdn hJ 26 85 rfl rfl rfl rfl)) (ar2 (po_e hS hdn hJ 30 89 rfl rfl rfl rfl) (po_e hS hdn hJ 32 91 rfl rfl rfl rfl))
            · exact po_k HWF hJ hE (is8_any (qTim (qMul bT A) K) (pmul dP (pmul dP bT A) K) _ (LtT.oft _ _ _) (LtT.mul _ _) ((RQ.tim (RQ.mul RQ.base HA.out) (by have h := HKL.out; omega)).enc.trans (RT.mul (RT.mul RT.base (Nat.lt_trans HA.out ordL_256)) (Nat.lt_trans HKO.out ordL_256)).enc.symm)) rfl rfl rfl rfl rfl (wanted_of rfl rfl (po_e hS hdn hJ 26 85 rfl rfl rfl rfl)) (ar2 (po_e hS hdn hJ 29 88 rfl rfl rfl rfl) (po_e hS hdn hJ 33 92 rfl rfl rfl rfl))
            · have e85 := po_e hS hdn hJ 26 85 rfl rfl rfl rfl
              have e93 := po_e hS hdn hJ 34 93 rfl rfl rfl rfl
              exact po_p (Op.pick (Operand.tmp 85) (Operand.tmp 93) (Operand.const (Value.bool false))) HWF hJ hE rfl rfl rfl rfl rfl rfl rfl (by first | (simp only [execOp, mkOp, eval_const, e85, e93]; done) | (simp only [execOp, mkOp, eval_const, e85, e93]; go_simp))
            · exact po_p _ HWF hJ hE rfl rfl rfl rfl rfl rfl rfl (x_move (po_e hS hdn hJ 35 94 rfl rfl rfl rfl))
            · exact po_k HWF hJ hE (awake8_any _) rfl rfl rfl rfl rfl (wanted_of rfl rfl (po_e hS hdn hJ 36 95 rfl rfl rfl rfl)) (ar0)
            · have e95 := po_e hS hdn hJ 36 95 rfl rfl rfl rfl
              have e96 := po_e hS hdn hJ 37 96 rfl rfl rfl rfl
              exact po_p (Op.pick (Operand.tmp 95) (Operand.tmp 96) (Operand.const (Value.bool false))) HWF hJ hE rfl rfl rfl rfl rfl rfl rfl (by first | (simp only [execOp, mkOp, eval_const, e95, e96]; done) | (simp only [execOp, mkOp, eval_const, e95, e96]; go_simp))
            · exact po_p _ HWF hJ hE rfl rfl rfl rfl rfl rfl rfl (x_assign (po_e hS hdn hJ 38 97 rfl rfl rfl rfl))
          · rw [putO_true _ _ _ _ _ rfl]
            simp only [putA, Nat.zero_add, Nat.reduceAdd]
            rw [hJ.tt 0 rfl, hJ.tt 1 rfl, hJ.tt 2 rfl, hJ.tt 3 rfl, hJ.tt 4 rfl, hJ.tt 5 rfl, hJ.tt 6 rfl, hJ.tt 7 rfl, hJ.tt 8 rfl, hJ.tt 9 rfl, hJ.tt 10 rfl, hJ.tt 11 rfl, hJ.tt 12 rfl, hJ.tt 13 rfl, hJ.tt 14 rfl, hJ.tt 15 rfl, hJ.tt 16 rfl, hJ.tt 17 rfl, hJ.tt 18 rfl, hJ.tt 19 rfl, hJ.tt 20 rfl, hJ.tt 21 rfl, hJ.tt 22 rfl, hJ.tt 23 rfl, hJ.tt 24 rfl, hJ.tt 25 rfl, hJ.tt 26 rfl, hJ.tt 27 rfl, hJ.tt 28 rfl, hJ.tt 29 rfl, hJ.tt 30 rfl, hJ.tt 31 rfl, hJ.tt 32 rfl, hJ.tt 33 rfl, hJ.tt 34 rfl, hJ.tt 35 rfl, hJ.tt 36 rfl, hJ.tt 37 rfl, hJ.tt 38 rfl, hJ.tt 39 rfl]
            simp only [Act.put, zA, zB, zC]
            refine po_end ?_
            replace r_t7 := Keep.row hE r_t7 rfl
            replace r_t8 := Keep.row hE r_t8 rfl
            replace r_t9 := Keep.row hE r_t9 rfl
            replace r_t10 := Keep.row hE r_t10 rfl
            replace f_s0 := Bs.below f_s0 (Keep.nil hE) (Nat.le_refl _)
            replace f_s1 := Bs.below f_s1 (Keep.nil hE) (Nat.le_refl _)
            replace f_s56 := Bs.below f_s56 (Keep.nil hE) (Nat.le_refl _)
            have Bw23 := hE.below Bw22 (HGS.out _ Bw22) rfl
            clear Bw22 hE hJ 
            go_wp2
            go_ret
            exact ⟨rfl, Bw23⟩
        · have q3 : (2147483648 : Int) < x2 := by omega
          clear h0 hB0 e0 h1 hB1 e1 d0 d1 d2 d3
          go_enter Try.func4, Try.ntmps4
          go_wp2_with (go_at_call 9; refine (awake8_any _).mono ?_; rintro e w9 ⟨rfl, hb9⟩)
          go_ret
          exact ⟨rfl, hb9⟩
      · have q2 : x2 < 0 := by omega
        clear h0 hB0 e0 h1 hB1 e1 d0 d1 d2
        go_enter Try.func4, Try.ntmps4
        go_wp2_with (go_at_call 9; refine (awake8_any _).mono ?_; rintro e w9 ⟨rfl, hb9⟩)
        go_ret
        exact ⟨rfl, hb9⟩
    · have q1 : (100 : Int) < (n1 : Int) := by omega
      clear h0 hB0 e0 h1 hB1 e1 d0 d1
      go_enter Try.func4, Try.ntmps4
      go_wp2_with (go_at_call 9; refine (awake8_any _).mono ?_; rintro e w9 ⟨rfl, hb9⟩)
      go_ret
      exact ⟨rfl, hb9⟩
  · have q0 : (100 : Int) < (n0 : Int) := by omega
    clear h0 hB0 e0 h1 hB1 e1 d0
    go_enter Try.func4, Try.ntmps4
    go_wp2_with (go_at_call 9; refine (awake8_any _).mono ?_; rintro e w9 ⟨rfl, hb9⟩)
    go_ret
    exact ⟨rfl, hb9⟩
end Go.Proofs.Ytphkmaihnbhgoaa
