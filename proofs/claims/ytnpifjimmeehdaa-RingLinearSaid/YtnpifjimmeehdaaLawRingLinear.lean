/- RingLinear, walked. -/
import Derived.Test.YtnpifjimmeehdaaMM3
namespace Go.Proofs.Ytnpifjimmeehdaa
open Go.RowKit Go.Deep
set_option linter.unusedSimpArgs false
set_option linter.unusedVariables false

theorem exec_poly_eql {w : World} {F G : Nat → Nat} (ρ : Operand → Value) (x y : Operand) (t : TypeId) (h : ∀ i, i < 256 → F i = G i) (hx : ρ x = .agg (arrOf 256 (pyF F))) (hy : ρ y = .agg (arrOf 256 (pyF G))) :
    (execOp ρ (mkOp (.binOp .eql 26 x y 26) t)).run Try.prog w = .ok (.value (.bool true)) w := by
  have e : arrOf 256 (pyF G) = arrOf 256 (pyF F) := arrOf_congr fun i hi => by unfold pyF; rw [h i hi]
  rw [e] at hy
  have hr := run_eql_arr (P := Try.prog) w 26 24 256 .u16 (fun i => ((F i : Nat) : Int)) u16_und (by kernel_rfl) (by kernel_rfl)
  have hq : (eqGuard .eql 26 x y (.agg (arrOf 256 (pyF F))) (.agg (arrOf 256 (pyF F)))).run Try.prog w = .ok () w := rfl
  unfold pyF at hx hy hq
  simp [execOp, mkOp, hx, hy, hq, hr, Result.andThen]
/-- f times x^K, place by place. -/
def tlF (f : Nat → Nat) (K j : Nat) : Nat := if K ≤ j then f (j - K) else (3329 - f (j + 256 - K)) % 3329
theorem lin_sub (f g : Nat → Nat) (hg : ∀ i, g i < 65536) (i : Nat) : nttN (fun k => (f k + (3329 - g k % 3329)) % 3329) i = (nttN f i + (3329 - nttN g i % 3329)) % 3329 := by
  have h := nttN_sub f g (fun i => by have := hg i; omega) i
  rw [show (fun k => (f k + 66580 - g k) % 3329) = fun k => (f k + (3329 - g k % 3329)) % 3329 from funext fun k => by have := hg k; omega] at h
  rw [h]
  have := nttN_lt g i
  omega
theorem lin_unit (f : Nat → Nat) (hf : ∀ i, i < 256 → f i < 3329) (K : Nat) (hK : K < 256) (i : Nat) (hi : i < 256) : invN (mulN (nttN f) (nttN fun i => if i = K then 1 else 0)) i = tlF f K i := by
  rw [invN_mul f _ i hi, slowN_unit f hf K i hK hi]
  rfl
theorem lin_step (f : Nat → Nat) (K i z : Nat) (hK : K < 256) (hi : i < 256) (hz : z = tlF f K ((i + K) % 256)) : ∀ k, k < 256 → (fun j => if (j + 256 - K) % 256 < i + 1 then tlF f K j else 0) k = if k = (i + K) % 256 then z else (fun j => if (j + 256 - K) % 256 < i then tlF f K j else 0) k := by
  intro k hk
  show (if (k + 256 - K) % 256 < i + 1 then _ else _) = if k = (i + K) % 256 then z else if (k + 256 - K) % 256 < i then _ else _
  by_cases e : k = (i + K) % 256
  · rw [if_pos (by omega), if_pos e, hz, e]
  · rw [if_neg e]
    by_cases h : (k + 256 - K) % 256 < i
    · rw [if_pos h, if_pos (by omega)]
    · rw [if_neg h, if_neg (by omega)]
set_option maxHeartbeats 8000000 in
set_option maxRecDepth 100000 in
theorem law_ringLinear (w : World) (v0 : Value) (l0 : List Int) (h0 : NumsK .u16 w v0 l0) (v1 : Value) (l1 : List Int) (h1 : NumsK .u16 w v1 l1) (x2 : Int) (w2 : (Lit.int .i64 x2).wf = true) : Calls Try.prog 7 #[v0, v1, .int .i64 x2] w fun e w' => e = .returned (.bool true) ∧ Below w.heap.size w w' := by
  obtain ⟨ad0, n0, c0, rfl, e0, y0, z0, hB0⟩ := h0.shape
  obtain ⟨ad1, n1, c1, rfl, e1, y1, z1, hB1⟩ := h1.shape
  by_cases d0 : n0 ≤ 256
  · have q0 : ¬ (256 : Int) < (n0 : Int) := by omega
    by_cases d1 : n1 ≤ 256
    · have q1 : ¬ (256 : Int) < (n1 : Int) := by omega
      have Bw0 := Below.refl w.heap.size w
      have HGS : Hid (∀ wq : World, Below w.heap.size w wq → w.heap.size ≤ wq.heap.size) := Lib.hid fun wq h => h.size
      obtain ⟨f, hf⟩ : ∃ f, f = polN l0 := ⟨_, rfl⟩
      have Hf : Hid (∀ i, f i < 65536) := Lib.hid (by rw [hf]; exact polN_lt (NumsK.wf hB0))
      have HP0 := Lib.hid fun W (hW : Below w.heap.size w W) => poly_any _ l0 W (NumsK.below hB0 hW (Nat.le_refl _)) (by omega)
      rw [← hf] at HP0
      clear hf
      obtain ⟨g, hg⟩ : ∃ f, f = polN l1 := ⟨_, rfl⟩
      have Hg : Hid (∀ i, g i < 65536) := Lib.hid (by rw [hg]; exact polN_lt (NumsK.wf hB1))
      have HP1 := Lib.hid fun W (hW : Below w.heap.size w W) => poly_any _ l1 W (NumsK.below hB1 hW (Nat.le_refl _)) (by omega)
      rw [← hg] at HP1
      clear hg
      have HMf := Lib.hid fun w => rMay_any f w Hf.out
      have HNf := Lib.hid fun w => refMay_any f w Hf.out
      have HMg := Lib.hid fun w => rMay_any g w Hg.out
      have HNg := Lib.hid fun w => refMay_any g w Hg.out
      obtain ⟨K, hK⟩ : ∃ K : Nat, (K : Int) = x2 % 256 := ⟨(x2 % 256).toNat, by omega⟩
      have hKl : K < 256 := by omega
      have HKL := Lib.hid hKl
      have HRO := Lib.hid fun w => roundI_any x2 256 K w w2 (by decide) (by decide) hK
      clear hK w2 hKl
      clear h0 hB0 e0 h1 hB1 e1 d0 d1
      by_cases hm0 : mayN f = true
      · have hma : mayN f = true := by simpa using hm0
        rw [hma] at HMf HNf
        have HAf := Lib.hid hma
        clear hma hm0
        by_cases hm0 : mayN g = true
        · have hma : mayN g = true := by simpa using hm0
          rw [hma] at HMg HNg
          have HAg := Lib.hid hma
          clear hma hm0
          go_enter Try.func7, Try.ntmps7
          have hKI : 0 ≤ (K : Int) ∧ (K : Int) < 256 := by have := HKL.out; omega
          go_wp2_with (first
            | (have hgo := Bw0; clear hgo
               go_at_call 10
               refine (HP0.out _ Bw0).mono ?_
               rintro e w2 ⟨rfl, kk⟩
               have Bw1 := zbt HGS Bw0 kk
               clear Bw0 kk)
            | (have hgo := Bw1; clear hgo
               refine wpList_alloc_row rfl 26 rfl 256 (pyF fun _ => 0) zeroP ?_
               intro b_t7 w6 lk r_t7 kk
               have l_t7 := zrl HGS Bw1 lk
               have Bw2 := zbt HGS Bw1 kk
               clear Bw1 kk lk)
            | (have hgo := Bw2; clear hgo
               refine wpList_alloc_row rfl 27 rfl 256 (pyF fun _ => 0) zeroPy ?_
               intro b_t8 w7 lk r_t8 kk
               have n_t7_t8 := zrn r_t7 lk
               have l_t8 := zrl HGS Bw2 lk
               replace r_t7 := zrb r_t7 kk
               have Bw3 := zbt HGS Bw2 kk
               clear Bw2 kk lk)
            | (have hgo := Bw3; clear hgo
               refine wpList_store_as rfl 26 (.tmp 7) (.tmp 28) rfl 256 (pyF f) arrP r_t7 rfl rfl (by omega) (fun _ _ => rfl) (fun i hi => putN_whole hi) ?_
               intro w8 q gk
               replace r_t8 := gb_rowIs r_t8 gk (Ne.symm n_t7_t8)
               replace r_t7 := q
               have Bw4 := zbg HGS Bw3 gk l_t7
               clear Bw3 gk q)
            | (have hgo := Bw4; clear hgo
               refine wpList_store_as rfl 27 (.tmp 8) (.tmp 29) rfl 256 (pyF f) arrPy r_t8 rfl rfl (by omega) (fun _ _ => rfl) (fun i hi => putN_whole hi) ?_
               intro w9 q gk
               replace r_t7 := gb_rowIs r_t7 gk n_t7_t8
               replace r_t8 := q
               have Bw5 := zbg HGS Bw4 gk l_t8
               clear Bw4 gk q)
            | (have hgo := Bw5; clear hgo
               go_at_call 10
               refine (HP1.out _ Bw5).mono ?_
               rintro e w11 ⟨rfl, kk⟩
               replace r_t7 := zrb r_t7 kk
               replace r_t8 := zrb r_t8 kk
               have Bw6 := zbt HGS Bw5 kk
               clear Bw5 kk)
            | (have hgo := Bw6; clear hgo
               refine wpList_alloc_row rfl 26 rfl 256 (pyF fun _ => 0) zeroP ?_
               intro b_t9 w15 lk r_t9 kk
               have n_t7_t9 := zrn r_t7 lk
               have n_t8_t9 := zrn r_t8 lk
               have l_t9 := zrl HGS Bw6 lk
               replace r_t7 := zrb r_t7 kk
               replace r_t8 := zrb r_t8 kk
               have Bw7 := zbt HGS Bw6 kk
               clear Bw6 kk lk)
            | (have hgo := Bw7; clear hgo
               refine wpList_alloc_row rfl 27 rfl 256 (pyF fun _ => 0) zeroPy ?_
               intro b_t10 w16 lk r_t10 kk
               have n_t7_t10 := zrn r_t7 lk
               have n_t8_t10 := zrn r_t8 lk
               have n_t9_t10 := zrn r_t9 lk
               have l_t10 := zrl HGS Bw7 lk
               replace r_t7 := zrb r_t7 kk
               replace r_t8 := zrb r_t8 kk
               replace r_t9 := zrb r_t9 kk
               have Bw8 := zbt HGS Bw7 kk
               clear Bw7 kk lk)
            | (have hgo := Bw8; clear hgo
               refine wpList_store_as rfl 26 (.tmp 9) (.tmp 33) rfl 256 (pyF g) arrP r_t9 rfl rfl (by omega) (fun _ _ => rfl) (fun i hi => putN_whole hi) ?_
               intro w17 q gk
               replace r_t7 := gb_rowIs r_t7 gk n_t7_t9
               replace r_t8 := gb_rowIs r_t8 gk n_t8_t9
               replace r_t10 := gb_rowIs r_t10 gk (Ne.symm n_t9_t10)
               replace r_t9 := q
               have Bw9 := zbg HGS Bw8 gk l_t9
               clear Bw8 gk q)
            | (have hgo := Bw9; clear hgo
               refine wpList_store_as rfl 27 (.tmp 10) (.tmp 34) rfl 256 (pyF g) arrPy r_t10 rfl rfl (by omega) (fun _ _ => rfl) (fun i hi => putN_whole hi) ?_
               intro w18 q gk
               replace r_t7 := gb_rowIs r_t7 gk n_t7_t10
               replace r_t8 := gb_rowIs r_t8 gk n_t8_t10
               replace r_t9 := gb_rowIs r_t9 gk n_t9_t10
               replace r_t10 := q
               have Bw10 := zbg HGS Bw9 gk l_t10
               clear Bw9 gk q)
            | (have hgo := Bw10; clear hgo
               refine wpList_load_as rfl 27 (.tmp 8) rfl 256 (pyF f) arrPy r_t8 rfl (by omega) (fun i hi => by rw [Nat.zero_add]) ?_
               have Bw11 := Bw10
               clear Bw10)
            | (have hgo := Bw11; clear hgo
               go_at_call 12
               refine (HNf.out _).mono ?_
               rintro e w20 ⟨rfl, kk⟩
               replace r_t7 := zrb r_t7 kk
               replace r_t8 := zrb r_t8 kk
               replace r_t9 := zrb r_t9 kk
               replace r_t10 := zrb r_t10 kk
               have Bw12 := zbt HGS Bw11 kk
               clear Bw11 kk)
            | (have hgo := Bw12; clear hgo
               refine wpList_load_asg rfl 27 (.tmp 10) rfl 256 (pyF g) arrPy r_t10 rfl (by omega) (fun i hi => by rw [Nat.zero_add]) ?_
               have Bw13 := Bw12
               clear Bw12)
            | (have hgo := Bw13; clear hgo
               go_at_call 12
               refine (HNg.out _).mono ?_
               rintro e w24 ⟨rfl, kk⟩
               replace r_t7 := zrb r_t7 kk
               replace r_t8 := zrb r_t8 kk
               replace r_t9 := zrb r_t9 kk
               replace r_t10 := zrb r_t10 kk
               have Bw14 := zbt HGS Bw13 kk
               clear Bw13 kk)
            | (have hgo := HRO; clear hgo
               go_at_call 34
               refine (HRO.out _).mono ?_
               rintro e w200 ⟨rfl, rfl⟩
               clear HRO)
            | (have hgo := Bw14; clear hgo
               refine wpList_alloc_row rfl 26 rfl 256 (pyF fun _ => 0) zeroP ?_
               intro b_t12 w28 lk r_t12 kk
               have n_t7_t12 := zrn r_t7 lk
               have n_t8_t12 := zrn r_t8 lk
               have n_t9_t12 := zrn r_t9 lk
               have n_t10_t12 := zrn r_t10 lk
               have l_t12 := zrl HGS Bw14 lk
               replace r_t7 := zrb r_t7 kk
               replace r_t8 := zrb r_t8 kk
               replace r_t9 := zrb r_t9 kk
               replace r_t10 := zrb r_t10 kk
               have Bw15 := zbt HGS Bw14 kk
               clear Bw14 kk lk)
            | (have hgo := Bw15; clear hgo
               refine wpList_alloc_row rfl 26 rfl 256 (pyF fun _ => 0) zeroP ?_
               intro b_t13 w29 lk r_t13 kk
               have n_t7_t13 := zrn r_t7 lk
               have n_t8_t13 := zrn r_t8 lk
               have n_t9_t13 := zrn r_t9 lk
               have n_t10_t13 := zrn r_t10 lk
               have n_t12_t13 := zrn r_t12 lk
               have l_t13 := zrl HGS Bw15 lk
               replace r_t7 := zrb r_t7 kk
               replace r_t8 := zrb r_t8 kk
               replace r_t9 := zrb r_t9 kk
               replace r_t10 := zrb r_t10 kk
               replace r_t12 := zrb r_t12 kk
               have Bw16 := zbt HGS Bw15 kk
               clear Bw15 kk lk)
            | (have hgo := Bw16; clear hgo
               refine wpList_store_py rfl (.tmp 47) (.const (.int .u16 1)) rfl (fun i => if i = K then 1 else 0) r_t12 HKL.out rfl rfl (fun _ _ => rfl) ?_
               intro w90 q90 g90
               replace r_t7 := gb_rowIs r_t7 g90 n_t7_t12
               replace r_t8 := gb_rowIs r_t8 g90 n_t8_t12
               replace r_t9 := gb_rowIs r_t9 g90 n_t9_t12
               replace r_t10 := gb_rowIs r_t10 g90 n_t10_t12
               replace r_t13 := gb_rowIs r_t13 g90 (Ne.symm n_t12_t13)
               replace r_t12 := q90
               have Bw50 := Bw16.grown g90 (HGS.out _ Bw16) (by intro k hk; cases hk; exact l_t12)
               clear Bw16 g90 q90))
          go_loopw [14] (fun iv wr => ∃ i : Nat, i ≤ 256 ∧ iv = .int .i64 (i : Int) ∧ wr.rowIs b_t7 26 256 (pyF f) ∧ wr.rowIs b_t9 26 256 (pyF g) ∧ wr.rowIs b_t12 26 256 (pyF fun i => if i = K then 1 else 0) ∧ wr.rowIs b_t13 26 256 (pyF fun j => if (j + 256 - K) % 256 < i then tlF f K j else 0) ∧ Below w.heap.size w wr) (fun iv _ => 256 - (intOf iv).toNat)
          case atStart => exact ⟨0, by omega, rfl, r_t7, r_t9, r_t12, pyF_congr r_t13 (fun k _ => (if_neg (Nat.not_lt_zero _)).symm), Bw50⟩
          case round =>
            clear r_t7 r_t8 r_t9 r_t10 r_t12 r_t13 Bw50
            obtain ⟨i, hi, rfl, r_t7, r_t9, r_t12, r_t13, Bw⟩ := hrel
            by_cases hlt : i < 256
            · have hiI : 0 ≤ (i : Int) ∧ (i : Int) < 256 := by omega
              have hKl := HKL.out
              have HI := Lib.hid hlt
              have HI1 : Hid (i + 1 ≤ 256) := Lib.hid hlt
              obtain ⟨v, hv⟩ := nat_var (f i)
              have hvl : v < 3329 := by rw [hv]; exact mayN_all HAf.out i hlt
              have HV := Lib.hid hv.symm
              obtain ⟨J, hJ⟩ := nat_var (i + K)
              have hwJ : IntKind.i64.wrap ((i : Int) + (K : Int)) = (J : Int) := by rw [IntWalk.i64_in _ (by omega)]; omega
              obtain ⟨j, hj⟩ := nat_var (J % 256)
              have hjJ : (J : Int).tmod 256 = (j : Int) := by rw [Int.tmod_eq_emod_of_nonneg (by omega)]; omega
              have hjJ2 : IntKind.i64.wrap ((J : Int).tmod 256) = (j : Int) := by rw [hjJ, IntWalk.i64_in _ (by omega)]
              have hjw : IntKind.i64.wrap (j : Int) = (j : Int) := IntWalk.i64_in _ (by omega)
              have hjI : 0 ≤ (j : Int) ∧ (j : Int) < 256 := by omega
              have HJL : Hid (j < 256) := Lib.hid (by omega)
              have htl : tlF f K ((i + K) % 256) = if J < 256 then v else (3329 - v) % 3329 := by
                rw [tlF, hv]
                by_cases h : J < 256
                · rw [if_pos (by omega), if_pos h, show (i + K) % 256 - K = i by omega]
                · rw [if_neg (by omega), if_neg h, show (i + K) % 256 + 256 - K = i by omega]
              have hstep := fun z (hz : z = tlF f K ((i + K) % 256)) => lin_step f K i z hKl hlt hz
              rw [← hJ, ← hj] at hstep htl
              by_cases hJ2 : J < 256
              · have hJI : ¬ (256 : Int) ≤ (J : Int) := by omega
                have HS := Lib.hid (hstep v (by rw [htl]; rw [if_pos hJ2]))
                clear hstep htl hv hJ hj hlt hKl
                go_wp2_with (first
                  | refine wpList_load_py rfl (.tmp 53) rfl r_t7 HI.out rfl HV.out ?_
                  | (have hgo := HS; clear hgo
                     refine wpList_store_py rfl (.tmp 70) (.tmp 69) rfl (fun j => if (j + 256 - K) % 256 < i + 1 then tlF f K j else 0) r_t13 HJL.out rfl rfl HS.out ?_
                     intro w7 q7 g7
                     replace r_t7 := gb_rowIs r_t7 g7 n_t7_t13
                     replace r_t9 := gb_rowIs r_t9 g7 n_t9_t13
                     replace r_t12 := gb_rowIs r_t12 g7 n_t12_t13
                     have Bw3 := Bw.grown g7 (HGS.out _ Bw) (by intro k hk; cases hk; exact l_t13)
                     clear Bw g7 r_t13 HS))
                go_roundw
                case rel => exact ⟨i + 1, HI1.out, by go_num, r_t7, r_t9, r_t12, q7, Bw3⟩
                case measure => (have := HI1.out; simp [intOf]; try omega)
              · have hJI : (256 : Int) ≤ (J : Int) := by omega
                by_cases hv0 : v = 0
                · subst hv0
                  have HS := Lib.hid (hstep 0 (by rw [htl]; rw [if_neg hJ2]))
                  clear hstep htl hv hJ hj hlt hKl
                  go_wp2_with (first
                    | refine wpList_load_py rfl (.tmp 53) rfl r_t7 HI.out rfl HV.out ?_
                    | (have hgo := HS; clear hgo
                       refine wpList_store_py rfl (.tmp 70) (.tmp 69) rfl (fun j => if (j + 256 - K) % 256 < i + 1 then tlF f K j else 0) r_t13 HJL.out rfl rfl HS.out ?_
                       intro w7 q7 g7
                       replace r_t7 := gb_rowIs r_t7 g7 n_t7_t13
                       replace r_t9 := gb_rowIs r_t9 g7 n_t9_t13
                       replace r_t12 := gb_rowIs r_t12 g7 n_t12_t13
                       have Bw3 := Bw.grown g7 (HGS.out _ Bw) (by intro k hk; cases hk; exact l_t13)
                       clear Bw g7 r_t13 HS))
                  go_roundw
                  case rel => exact ⟨i + 1, HI1.out, by go_num, r_t7, r_t9, r_t12, q7, Bw3⟩
                  case measure => (have := HI1.out; simp [intOf]; try omega)
                · have hv0I : ¬ (v : Int) = 0 := by omega
                  obtain ⟨u, hu⟩ := nat_var (3329 - v)
                  have hwu : IntKind.u16.wrap (3329 - (v : Int)) = (u : Int) := by rw [show 3329 - (v : Int) = (u : Int) by omega, u16_in _ (by omega)]
                  have HS := Lib.hid (hstep u (by rw [htl]; rw [if_neg hJ2, Nat.mod_eq_of_lt (by omega), hu]))
                  clear hstep htl hv hJ hj hlt hKl hu
                  go_wp2_with (first
                    | refine wpList_load_py rfl (.tmp 53) rfl r_t7 HI.out rfl HV.out ?_
                    | (have hgo := HS; clear hgo
                       refine wpList_store_py rfl (.tmp 70) (.tmp 69) rfl (fun j => if (j + 256 - K) % 256 < i + 1 then tlF f K j else 0) r_t13 HJL.out rfl rfl HS.out ?_
                       intro w7 q7 g7
                       replace r_t7 := gb_rowIs r_t7 g7 n_t7_t13
                       replace r_t9 := gb_rowIs r_t9 g7 n_t9_t13
                       replace r_t12 := gb_rowIs r_t12 g7 n_t12_t13
                       have Bw3 := Bw.grown g7 (HGS.out _ Bw) (by intro k hk; cases hk; exact l_t13)
                       clear Bw g7 r_t13 HS))
                  go_roundw
                  case rel => exact ⟨i + 1, HI1.out, by go_num, r_t7, r_t9, r_t12, q7, Bw3⟩
                  case measure => (have := HI1.out; simp [intOf]; try omega)
            · obtain rfl : i = 256 := by omega
              replace r_t13 : wr.rowIs b_t13 26 256 (pyF (tlF f K)) := pyF_congr r_t13 fun k hk => if_pos (Nat.mod_lt _ (by decide))
              have Bw0 := Bw
              clear Bw
              go_wp2
              have Bw1 := Bw0.drew
              replace r_t7 := World.rowIs.drew r_t7
              replace r_t9 := World.rowIs.drew r_t9
              replace r_t12 := World.rowIs.drew r_t12
              replace r_t13 := World.rowIs.drew r_t13
              clear Bw0
              refine zpo [] (.rd 0 (.rd 1 (.rd 2 (.rd 5 (.rd 6 (.rd 8 (.rd 9 .done))))))) #[true, true, true, false, false, true, true, false, true, true, false, false, false, false, false, false, false, false, false, false, false, false, false, false, false, false, false, false, false, false, false, false, false, false, false, false, false, false, false, false, false, false, false, false, false, false] [3, 4, 7, 10, 11, 12, 13, 14, 15, 16, 17, 18, 19, 20, 21, 22, 23, 24, 25, 26, 27, 28, 29, 30, 31, 32, 33, 34, 35, 36, 37, 38, 39, 40, 41, 42, 43, 44, 45] [some 74, some 75, some 78, some 81, some 82, some 83, some 84, some 85, some 86, some 87, some 88, some 89, some 90, some 91, some 92, some 93, some 94, some 95, some 96, some 97, some 98, some 99, some 100, some 101, some 102, some 103, some 104, some 105, some 106, some 107, some 108, some 109, some 110, some 111, some 112, some 113, some 114, some 115, some 6] [[], [0], [1], [2], [2, 3], [1, 4], [4, 5], [6], [6], [6, 7, 8], [6], [6], [6, 9, 10, 11], [6, 9, 12], [6], [6], [6, 13, 14, 15], [6], [6], [6, 16, 17, 18], [6, 16, 19], [6, 13, 20], [6, 21], [20, 22], [23], [23], [23, 24, 25], [23], [23], [23, 26, 27, 28], [23, 26, 29], [23, 30], [23], [23, 31, 32], [23, 33], [31, 34], [35], [35, 36], [0, 1, 2, 3, 4, 5, 6, 7, 8, 9, 10, 11, 12, 13, 14, 15, 16, 17, 18, 19, 20, 21, 22, 23, 24, 25, 26, 27, 28, 29, 30, 31, 32, 33, 34, 35, 36, 37]] [(0, []), (1, []), (2, []), (3, [1, 2]), (4, [0, 3, 3]), (5, []), (6, []), (7, [5, 6, 4]), (8, []), (9, []), (10, [8, 9, 7]), (11, [7, 10, 10]), (12, [4, 11]), (13, [12, 11]), (14, [13]), (15, [13]), (16, [14, 15, 13, 13]), (17, [13]), (18, [13]), (19, [17, 18, 16, 13]), (20, [16, 19, 19, 13]), (21, [13]), (22, [13]), (23, [21, 22, 20, 13]), (24, [13]), (25, [13]), (26, [24, 25, 23, 13]), (27, [23, 26, 26, 13]), (28, [20, 27, 13]), (29, [13, 28]), (30, [29, 27]), (31, [30]), (32, [30]), (33, [31, 32, 30, 30]), (34, [30]), (35, [30]), (36, [34, 35, 33, 30]), (37, [33, 36, 36, 30]), (38, [37, 37, 30]), (39, [30]), (40, [38, 39, 30]), (41, [30, 40]), (42, [41, 38]), (43, [42, 42]), (44, [42, 43]), (45, [44, 43, 0, 1, 2, 3, 4, 5, 6, 7, 8, 9, 10, 11, 12, 13, 14, 15, 16, 17, 18, 19, 20, 21, 22, 23, 24, 25, 26, 27, 28, 29, 30, 31, 32, 33, 34, 35, 36, 37, 38, 39, 40, 41, 42, 43, 44])] 871 ?_
              refine zmv (.func (.func 18) #[] #[]) rfl rfl rfl rfl rfl ?_
              simp only [Act.put, zA, zB, zC]
              refine zld (pyF f) arrP r_t7 rfl (fun i hi => by rw [Nat.zero_add]) rfl rfl rfl rfl rfl (by omega) ?_
              refine zld (pyF g) arrP r_t9 rfl (fun i hi => by rw [Nat.zero_add]) rfl rfl rfl rfl rfl (by omega) ?_
              refine zmv (.func (.func 18) #[] #[]) rfl rfl rfl rfl rfl ?_
              simp only [Act.put, zA, zB, zC]
              refine zld (pyF f) arrP r_t7 rfl (fun i hi => by rw [Nat.zero_add]) rfl rfl rfl rfl rfl (by omega) ?_
              refine zmv (.func (.func 18) #[] #[]) rfl rfl rfl rfl rfl ?_
              refine zld (pyF g) arrP r_t9 rfl (fun i hi => by rw [Nat.zero_add]) rfl rfl rfl rfl rfl (by omega) ?_
              simp only [Act.put, zA, zB, zC]
              refine lintz_leaf ?_
              refine po_start [.val (.agg (arrOf 256 (pyF (fun k => (f k + (3329 - g k % 3329)) % 3329)))), .val (.agg (arrOf 256 (pyF (nttN (fun k => (f k + (3329 - g k % 3329)) % 3329))))), .val (.agg (arrOf 256 (pyF (nttN f)))), .val (.agg (arrOf 256 (pyF (nttN g)))), .val (.agg (arrOf 256 (pyF (fun k => ((nttN f) k + (3329 - (nttN g) k % 3329)) % 3329)))), .val (.bool true), .val (.bool true), .val (.func (.func 18) #[] #[]), .val (.agg (arrOf 256 (pyF f))), .val (.agg (arrOf 256 (pyF (nttN f)))), .val (.func (.func 18) #[] #[]), .val (.agg (arrOf 256 (pyF g))), .val (.agg (arrOf 256 (pyF (nttN g)))), .val (.agg (arrOf 256 (pyF (mulN (nttN f) (nttN g))))), .val (.func (.func 18) #[] #[]), .val (.agg (arrOf 256 (pyF g))), .val (.agg (arrOf 256 (pyF (nttN g)))), .val (.func (.func 18) #[] #[]), .val (.agg (arrOf 256 (pyF f))), .val (.agg (arrOf 256 (pyF (nttN f)))), .val (.agg (arrOf 256 (pyF (mulN (nttN g) (nttN f))))), .val (.bool true), .val (.bool true), .val (.bool true), .val (.func (.func 18) #[] #[]), .val (.agg (arrOf 256 (pyF f))), .val (.agg (arrOf 256 (pyF (nttN f)))), .val (.func (.func 18) #[] #[]), .val (.agg (arrOf 256 (pyF (fun i => if i = K then 1 else 0)))), .val (.agg (arrOf 256 (pyF (nttN (fun i => if i = K then 1 else 0))))), .val (.agg (arrOf 256 (pyF (mulN (nttN f) (nttN (fun i => if i = K then 1 else 0)))))), .val (.agg (arrOf 256 (pyF (invN (mulN (nttN f) (nttN (fun i => if i = K then 1 else 0))))))), .val (.agg (arrOf 256 (pyF (tlF f K)))), .val (.bool true), .val (.bool true), .val (.bool true), .val (.bool true), .val (.bool true), .val (.bool true)] [] (fun i hi => absurd hi (Nat.not_lt_zero _)) (fun HWF m gz wa p az hp hm hmp hcl hdn hE hJ hS hO => ?_) (fun gz wa hE hJ => ?_)
              · rcases (show p = 0 ∨ p = 1 ∨ p = 2 ∨ p = 3 ∨ p = 4 ∨ p = 5 ∨ p = 6 ∨ p = 7 ∨ p = 8 ∨ p = 9 ∨ p = 10 ∨ p = 11 ∨ p = 12 ∨ p = 13 ∨ p = 14 ∨ p = 15 ∨ p = 16 ∨ p = 17 ∨ p = 18 ∨ p = 19 ∨ p = 20 ∨ p = 21 ∨ p = 22 ∨ p = 23 ∨ p = 24 ∨ p = 25 ∨ p = 26 ∨ p = 27 ∨ p = 28 ∨ p = 29 ∨ p = 30 ∨ p = 31 ∨ p = 32 ∨ p = 33 ∨ p = 34 ∨ p = 35 ∨ p = 36 ∨ p = 37 ∨ p = 38 by have h9 : p < 39 := hp; omega) with rfl | rfl | rfl | rfl | rfl | rfl | rfl | rfl | rfl | rfl | rfl | rfl | rfl | rfl | rfl | rfl | rfl | rfl | rfl | rfl | rfl | rfl | rfl | rfl | rfl | rfl | rfl | rfl | rfl | rfl | rfl | rfl | rfl | rfl | rfl | rfl | rfl | rfl | rfl
                · have e72 : az.eval (.tmp 72) = .agg (arrOf 256 (pyF f)) := hO 72 rfl
                  have e73 : az.eval (.tmp 73) = .agg (arrOf 256 (pyF g)) := hO 73 rfl
                  exact po_k HWF hJ hE (rSub_any f g _ Hf.out Hg.out) rfl rfl rfl rfl rfl rfl (ar2 e72 e73)
                · have e71 : az.eval (.tmp 71) = .func (.func 18) #[] #[] := hO 71 rfl
                  exact po_kv HWF hJ hE (rNTT_any (fun k => (f k + (3329 - g k % 3329)) % 3329) _ (small_lt fun _ => Nat.mod_lt _ (by decide))) rfl rfl rfl rfl rfl rfl e71 (ar1 (po_e hS hdn hJ 0 74 rfl rfl rfl rfl))
                · have e77 : az.eval (.tmp 77) = .agg (arrOf 256 (pyF f)) := hO 77 rfl
                  have e76 : az.eval (.tmp 76) = .func (.func 18) #[] #[] := hO 76 rfl
                  exact po_kv HWF hJ hE (rNTT_any f _ Hf.out) rfl rfl rfl rfl rfl rfl e76 (ar1 e77)
                · have e80 : az.eval (.tmp 80) = .agg (arrOf 256 (pyF g)) := hO 80 rfl
                  have e79 : az.eval (.tmp 79) = .func (.func 18) #[] #[] := hO 79 rfl
                  exact po_kv HWF hJ hE (rNTT_any g _ Hg.out) rfl rfl rfl rfl rfl rfl e79 (ar1 e80)
                · exact po_k HWF hJ hE (rSub_any (nttN f) (nttN g) _ (small_lt (nttN_lt _)) (small_lt (nttN_lt _))) rfl rfl rfl rfl rfl rfl (ar2 (po_e hS hdn hJ 2 78 rfl rfl rfl rfl) (po_e hS hdn hJ 3 81 rfl rfl rfl rfl))
                · exact po_p _ HWF hJ hE rfl rfl rfl rfl rfl rfl rfl (exec_poly_eql _ _ _ _ (fun i _ => lin_sub f g Hg.out i) (po_e hS hdn hJ 1 75 rfl rfl rfl rfl) (po_e hS hdn hJ 4 82 rfl rfl rfl rfl))
                · exact po_p _ HWF hJ hE rfl rfl rfl rfl rfl rfl rfl (x_move (po_e hS hdn hJ 5 83 rfl rfl rfl rfl))
                · have e11 : az.eval (.tmp 11) = .func (.func 18) #[] #[] := hO 11 rfl
                  exact po_p _ HWF hJ hE rfl rfl rfl rfl rfl rfl (wanted_of rfl rfl (po_e hS hdn hJ 6 84 rfl rfl rfl rfl)) (x_move e11)
                · have e7 : az.eval (.tmp 7) = .pointer (some ⟨b_t7, 0, none⟩) := hO 7 rfl
                  exact po_p _ HWF hJ hE rfl rfl rfl rfl rfl rfl (wanted_of rfl rfl (po_e hS hdn hJ 6 84 rfl rfl rfl rfl)) (exec_load_as _ _ _ _ (pyF f) e7 arrP (Keep.row hE r_t7 rfl) (by omega) (fun i hi => by rw [Nat.zero_add]))
                · exact po_kv HWF hJ hE (rNTT_any f _ Hf.out) rfl rfl rfl rfl rfl (wanted_of rfl rfl (po_e hS hdn hJ 6 84 rfl rfl rfl rfl)) (po_e hS hdn hJ 7 85 rfl rfl rfl rfl) (ar1 (po_e hS hdn hJ 8 86 rfl rfl rfl rfl))
                · have e11 : az.eval (.tmp 11) = .func (.func 18) #[] #[] := hO 11 rfl
                  exact po_p _ HWF hJ hE rfl rfl rfl rfl rfl rfl (wanted_of rfl rfl (po_e hS hdn hJ 6 84 rfl rfl rfl rfl)) (x_move e11)
                · have e9 : az.eval (.tmp 9) = .pointer (some ⟨b_t9, 0, none⟩) := hO 9 rfl
                  exact po_p _ HWF hJ hE rfl rfl rfl rfl rfl rfl (wanted_of rfl rfl (po_e hS hdn hJ 6 84 rfl rfl rfl rfl)) (exec_load_as _ _ _ _ (pyF g) e9 arrP (Keep.row hE r_t9 rfl) (by omega) (fun i hi => by rw [Nat.zero_add]))
                · exact po_kv HWF hJ hE (rNTT_any g _ Hg.out) rfl rfl rfl rfl rfl (wanted_of rfl rfl (po_e hS hdn hJ 6 84 rfl rfl rfl rfl)) (po_e hS hdn hJ 10 88 rfl rfl rfl rfl) (ar1 (po_e hS hdn hJ 11 89 rfl rfl rfl rfl))
                · exact po_k HWF hJ hE (rMul_any (nttN f) (nttN g) _ (small_lt (nttN_lt _)) (small_lt (nttN_lt _))) rfl rfl rfl rfl rfl (wanted_of rfl rfl (po_e hS hdn hJ 6 84 rfl rfl rfl rfl)) (ar2 (po_e hS hdn hJ 9 87 rfl rfl rfl rfl) (po_e hS hdn hJ 12 90 rfl rfl rfl rfl))
                · have e11 : az.eval (.tmp 11) = .func (.func 18) #[] #[] := hO 11 rfl
                  exact po_p _ HWF hJ hE rfl rfl rfl rfl rfl rfl (wanted_of rfl rfl (po_e hS hdn hJ 6 84 rfl rfl rfl rfl)) (x_move e11)
                · have e9 : az.eval (.tmp 9) = .pointer (some ⟨b_t9, 0, none⟩) := hO 9 rfl
                  exact po_p _ HWF hJ hE rfl rfl rfl rfl rfl rfl (wanted_of rfl rfl (po_e hS hdn hJ 6 84 rfl rfl rfl rfl)) (exec_load_as _ _ _ _ (pyF g) e9 arrP (Keep.row hE r_t9 rfl) (by omega) (fun i hi => by rw [Nat.zero_add]))
                · exact po_kv HWF hJ hE (rNTT_any g _ Hg.out) rfl rfl rfl rfl rfl (wanted_of rfl rfl (po_e hS hdn hJ 6 84 rfl rfl rfl rfl)) (po_e hS hdn hJ 14 92 rfl rfl rfl rfl) (ar1 (po_e hS hdn hJ 15 93 rfl rfl rfl rfl))
                · have e11 : az.eval (.tmp 11) = .func (.func 18) #[] #[] := hO 11 rfl
                  exact po_p _ HWF hJ hE rfl rfl rfl rfl rfl rfl (wanted_of rfl rfl (po_e hS hdn hJ 6 84 rfl rfl rfl rfl)) (x_move e11)
                · have e7 : az.eval (.tmp 7) = .pointer (some ⟨b_t7, 0, none⟩) := hO 7 rfl
                  exact po_p _ HWF hJ hE rfl rfl rfl rfl rfl rfl (wanted_of rfl rfl (po_e hS hdn hJ 6 84 rfl rfl rfl rfl)) (exec_load_as _ _ _ _ (pyF f) e7 arrP (Keep.row hE r_t7 rfl) (by omega) (fun i hi => by rw [Nat.zero_add]))
                · exact po_kv HWF hJ hE (rNTT_any f _ Hf.out) rfl rfl rfl rfl rfl (wanted_of rfl rfl (po_e hS hdn hJ 6 84 rfl rfl rfl rfl)) (po_e hS hdn hJ 17 95 rfl rfl rfl rfl) (ar1 (po_e hS hdn hJ 18 96 rfl rfl rfl rfl))
                · exact po_k HWF hJ hE (rMul_any (nttN g) (nttN f) _ (small_lt (nttN_lt _)) (small_lt (nttN_lt _))) rfl rfl rfl rfl rfl (wanted_of rfl rfl (po_e hS hdn hJ 6 84 rfl rfl rfl rfl)) (ar2 (po_e hS hdn hJ 16 94 rfl rfl rfl rfl) (po_e hS hdn hJ 19 97 rfl rfl rfl rfl))
                · exact po_p _ HWF hJ hE rfl rfl rfl rfl rfl rfl (wanted_of rfl rfl (po_e hS hdn hJ 6 84 rfl rfl rfl rfl)) (exec_poly_eql _ _ _ _ (fun i _ => mulN_comm _ _ i) (po_e hS hdn hJ 13 91 rfl rfl rfl rfl) (po_e hS hdn hJ 20 98 rfl rfl rfl rfl))
                · have e84 := po_e hS hdn hJ 6 84 rfl rfl rfl rfl
                  have e99 := po_e hS hdn hJ 21 99 rfl rfl rfl rfl
                  exact po_p (Op.pick (Operand.tmp 84) (Operand.tmp 99) (Operand.const (Value.bool false))) HWF hJ hE rfl rfl rfl rfl rfl rfl rfl (by first | (simp only [execOp, mkOp, eval_const, e84, e99]; done) | (simp only [execOp, mkOp, eval_const, e84, e99]; go_simp))
                · exact po_p _ HWF hJ hE rfl rfl rfl rfl rfl rfl rfl (x_move (po_e hS hdn hJ 22 100 rfl rfl rfl rfl))
                · have e11 : az.eval (.tmp 11) = .func (.func 18) #[] #[] := hO 11 rfl
                  exact po_p _ HWF hJ hE rfl rfl rfl rfl rfl rfl (wanted_of rfl rfl (po_e hS hdn hJ 23 101 rfl rfl rfl rfl)) (x_move e11)
                · have e7 : az.eval (.tmp 7) = .pointer (some ⟨b_t7, 0, none⟩) := hO 7 rfl
                  exact po_p _ HWF hJ hE rfl rfl rfl rfl rfl rfl (wanted_of rfl rfl (po_e hS hdn hJ 23 101 rfl rfl rfl rfl)) (exec_load_as _ _ _ _ (pyF f) e7 arrP (Keep.row hE r_t7 rfl) (by omega) (fun i hi => by rw [Nat.zero_add]))
                · exact po_kv HWF hJ hE (rNTT_any f _ Hf.out) rfl rfl rfl rfl rfl (wanted_of rfl rfl (po_e hS hdn hJ 23 101 rfl rfl rfl rfl)) (po_e hS hdn hJ 24 102 rfl rfl rfl rfl) (ar1 (po_e hS hdn hJ 25 103 rfl rfl rfl rfl))
                · have e11 : az.eval (.tmp 11) = .func (.func 18) #[] #[] := hO 11 rfl
                  exact po_p _ HWF hJ hE rfl rfl rfl rfl rfl rfl (wanted_of rfl rfl (po_e hS hdn hJ 23 101 rfl rfl rfl rfl)) (x_move e11)
                · have e12 : az.eval (.tmp 12) = .pointer (some ⟨b_t12, 0, none⟩) := hO 12 rfl
                  exact po_p _ HWF hJ hE rfl rfl rfl rfl rfl rfl (wanted_of rfl rfl (po_e hS hdn hJ 23 101 rfl rfl rfl rfl)) (exec_load_as _ _ _ _ (pyF (fun i => if i = K then 1 else 0)) e12 arrP (Keep.row hE r_t12 rfl) (by omega) (fun i hi => by rw [Nat.zero_add]))
                · exact po_kv HWF hJ hE (rNTT_any (fun i => if i = K then 1 else 0) _ (fun i => by show (if i = K then 1 else 0) < 65536; split <;> decide)) rfl rfl rfl rfl rfl (wanted_of rfl rfl (po_e hS hdn hJ 23 101 rfl rfl rfl rfl)) (po_e hS hdn hJ 27 105 rfl rfl rfl rfl) (ar1 (po_e hS hdn hJ 28 106 rfl rfl rfl rfl))
                · exact po_k HWF hJ hE (rMul_any (nttN f) (nttN (fun i => if i = K then 1 else 0)) _ (small_lt (nttN_lt _)) (small_lt (nttN_lt _))) rfl rfl rfl rfl rfl (wanted_of rfl rfl (po_e hS hdn hJ 23 101 rfl rfl rfl rfl)) (ar2 (po_e hS hdn hJ 26 104 rfl rfl rfl rfl) (po_e hS hdn hJ 29 107 rfl rfl rfl rfl))
                · exact po_k HWF hJ hE (rInverse_any (mulN (nttN f) (nttN (fun i => if i = K then 1 else 0))) _ (small_lt (mulN_lt _ _))) rfl rfl rfl rfl rfl (wanted_of rfl rfl (po_e hS hdn hJ 23 101 rfl rfl rfl rfl)) (ar1 (po_e hS hdn hJ 30 108 rfl rfl rfl rfl))
                · have e13 : az.eval (.tmp 13) = .pointer (some ⟨b_t13, 0, none⟩) := hO 13 rfl
                  exact po_p _ HWF hJ hE rfl rfl rfl rfl rfl rfl (wanted_of rfl rfl (po_e hS hdn hJ 23 101 rfl rfl rfl rfl)) (exec_load_as _ _ _ _ (pyF (tlF f K)) e13 arrP (Keep.row hE r_t13 rfl) (by omega) (fun i hi => by rw [Nat.zero_add]))
                · exact po_p _ HWF hJ hE rfl rfl rfl rfl rfl rfl (wanted_of rfl rfl (po_e hS hdn hJ 23 101 rfl rfl rfl rfl)) (exec_poly_eql _ _ _ _ (lin_unit f (mayN_all HAf.out) K HKL.out) (po_e hS hdn hJ 31 109 rfl rfl rfl rfl) (po_e hS hdn hJ 32 110 rfl rfl rfl rfl))
                · have e101 := po_e hS hdn hJ 23 101 rfl rfl rfl rfl
                  have e111 := po_e hS hdn hJ 33 111 rfl rfl rfl rfl
                  exact po_p (Op.pick (Operand.tmp 101) (Operand.tmp 111) (Operand.const (Value.bool false))) HWF hJ hE rfl rfl rfl rfl rfl rfl rfl (by first | (simp only [execOp, mkOp, eval_const, e101, e111]; done) | (simp only [execOp, mkOp, eval_const, e101, e111]; go_simp))
                · exact po_p _ HWF hJ hE rfl rfl rfl rfl rfl rfl rfl (x_move (po_e hS hdn hJ 34 112 rfl rfl rfl rfl))
                · exact po_k HWF hJ hE (awake10_any _) rfl rfl rfl rfl rfl (wanted_of rfl rfl (po_e hS hdn hJ 35 113 rfl rfl rfl rfl)) (ar0)
                · have e113 := po_e hS hdn hJ 35 113 rfl rfl rfl rfl
                  have e114 := po_e hS hdn hJ 36 114 rfl rfl rfl rfl
                  exact po_p (Op.pick (Operand.tmp 113) (Operand.tmp 114) (Operand.const (Value.bool false))) HWF hJ hE rfl rfl rfl rfl rfl rfl rfl (by first | (simp only [execOp, mkOp, eval_const, e113, e114]; done) | (simp only [execOp, mkOp, eval_const, e113, e114]; go_simp))
                · exact po_p _ HWF hJ hE rfl rfl rfl rfl rfl rfl rfl (x_assign (po_e hS hdn hJ 37 115 rfl rfl rfl rfl))
              · rw [putO_true _ _ _ _ _ rfl]
                simp only [putA, Nat.zero_add, Nat.reduceAdd]
                rw [hJ.tt 0 rfl, hJ.tt 1 rfl, hJ.tt 2 rfl, hJ.tt 3 rfl, hJ.tt 4 rfl, hJ.tt 5 rfl, hJ.tt 6 rfl, hJ.tt 7 rfl, hJ.tt 8 rfl, hJ.tt 9 rfl, hJ.tt 10 rfl, hJ.tt 11 rfl, hJ.tt 12 rfl, hJ.tt 13 rfl, hJ.tt 14 rfl, hJ.tt 15 rfl, hJ.tt 16 rfl, hJ.tt 17 rfl, hJ.tt 18 rfl, hJ.tt 19 rfl, hJ.tt 20 rfl, hJ.tt 21 rfl, hJ.tt 22 rfl, hJ.tt 23 rfl, hJ.tt 24 rfl, hJ.tt 25 rfl, hJ.tt 26 rfl, hJ.tt 27 rfl, hJ.tt 28 rfl, hJ.tt 29 rfl, hJ.tt 30 rfl, hJ.tt 31 rfl, hJ.tt 32 rfl, hJ.tt 33 rfl, hJ.tt 34 rfl, hJ.tt 35 rfl, hJ.tt 36 rfl, hJ.tt 37 rfl, hJ.tt 38 rfl]
                simp only [Act.put, zA, zB, zC]
                refine po_end ?_
                replace r_t7 := Keep.row hE r_t7 rfl
                replace r_t9 := Keep.row hE r_t9 rfl
                replace r_t12 := Keep.row hE r_t12 rfl
                replace r_t13 := Keep.row hE r_t13 rfl
                have Bw2 := hE.below Bw1 (HGS.out _ Bw1) rfl
                clear Bw1 hE hJ 
                go_wp2
                go_ret
                exact ⟨rfl, Bw2⟩
        · have hma : mayN g = false := by simpa using hm0
          rw [hma] at HMg HNg
          have HAg := Lib.hid hma
          clear hma hm0
          go_enter Try.func7, Try.ntmps7
          go_wp2_with (first
            | (have hgo := Bw0; clear hgo
               go_at_call 10
               refine (HP0.out _ Bw0).mono ?_
               rintro e w2 ⟨rfl, kk⟩
               have Bw1 := zbt HGS Bw0 kk
               clear Bw0 kk)
            | (have hgo := Bw1; clear hgo
               refine wpList_alloc_row rfl 26 rfl 256 (pyF fun _ => 0) zeroP ?_
               intro b_t7 w6 lk r_t7 kk
               have l_t7 := zrl HGS Bw1 lk
               have Bw2 := zbt HGS Bw1 kk
               clear Bw1 kk lk)
            | (have hgo := Bw2; clear hgo
               refine wpList_alloc_row rfl 27 rfl 256 (pyF fun _ => 0) zeroPy ?_
               intro b_t8 w7 lk r_t8 kk
               have n_t7_t8 := zrn r_t7 lk
               have l_t8 := zrl HGS Bw2 lk
               replace r_t7 := zrb r_t7 kk
               have Bw3 := zbt HGS Bw2 kk
               clear Bw2 kk lk)
            | (have hgo := Bw3; clear hgo
               refine wpList_store_as rfl 26 (.tmp 7) (.tmp 28) rfl 256 (pyF f) arrP r_t7 rfl rfl (by omega) (fun _ _ => rfl) (fun i hi => putN_whole hi) ?_
               intro w8 q gk
               replace r_t8 := gb_rowIs r_t8 gk (Ne.symm n_t7_t8)
               replace r_t7 := q
               have Bw4 := zbg HGS Bw3 gk l_t7
               clear Bw3 gk q)
            | (have hgo := Bw4; clear hgo
               refine wpList_store_as rfl 27 (.tmp 8) (.tmp 29) rfl 256 (pyF f) arrPy r_t8 rfl rfl (by omega) (fun _ _ => rfl) (fun i hi => putN_whole hi) ?_
               intro w9 q gk
               replace r_t7 := gb_rowIs r_t7 gk n_t7_t8
               replace r_t8 := q
               have Bw5 := zbg HGS Bw4 gk l_t8
               clear Bw4 gk q)
            | (have hgo := Bw5; clear hgo
               go_at_call 10
               refine (HP1.out _ Bw5).mono ?_
               rintro e w11 ⟨rfl, kk⟩
               replace r_t7 := zrb r_t7 kk
               replace r_t8 := zrb r_t8 kk
               have Bw6 := zbt HGS Bw5 kk
               clear Bw5 kk)
            | (have hgo := Bw6; clear hgo
               refine wpList_alloc_row rfl 26 rfl 256 (pyF fun _ => 0) zeroP ?_
               intro b_t9 w15 lk r_t9 kk
               have n_t7_t9 := zrn r_t7 lk
               have n_t8_t9 := zrn r_t8 lk
               have l_t9 := zrl HGS Bw6 lk
               replace r_t7 := zrb r_t7 kk
               replace r_t8 := zrb r_t8 kk
               have Bw7 := zbt HGS Bw6 kk
               clear Bw6 kk lk)
            | (have hgo := Bw7; clear hgo
               refine wpList_alloc_row rfl 27 rfl 256 (pyF fun _ => 0) zeroPy ?_
               intro b_t10 w16 lk r_t10 kk
               have n_t7_t10 := zrn r_t7 lk
               have n_t8_t10 := zrn r_t8 lk
               have n_t9_t10 := zrn r_t9 lk
               have l_t10 := zrl HGS Bw7 lk
               replace r_t7 := zrb r_t7 kk
               replace r_t8 := zrb r_t8 kk
               replace r_t9 := zrb r_t9 kk
               have Bw8 := zbt HGS Bw7 kk
               clear Bw7 kk lk)
            | (have hgo := Bw8; clear hgo
               refine wpList_store_as rfl 26 (.tmp 9) (.tmp 33) rfl 256 (pyF g) arrP r_t9 rfl rfl (by omega) (fun _ _ => rfl) (fun i hi => putN_whole hi) ?_
               intro w17 q gk
               replace r_t7 := gb_rowIs r_t7 gk n_t7_t9
               replace r_t8 := gb_rowIs r_t8 gk n_t8_t9
               replace r_t10 := gb_rowIs r_t10 gk (Ne.symm n_t9_t10)
               replace r_t9 := q
               have Bw9 := zbg HGS Bw8 gk l_t9
               clear Bw8 gk q)
            | (have hgo := Bw9; clear hgo
               refine wpList_store_as rfl 27 (.tmp 10) (.tmp 34) rfl 256 (pyF g) arrPy r_t10 rfl rfl (by omega) (fun _ _ => rfl) (fun i hi => putN_whole hi) ?_
               intro w18 q gk
               replace r_t7 := gb_rowIs r_t7 gk n_t7_t10
               replace r_t8 := gb_rowIs r_t8 gk n_t8_t10
               replace r_t9 := gb_rowIs r_t9 gk n_t9_t10
               replace r_t10 := q
               have Bw10 := zbg HGS Bw9 gk l_t10
               clear Bw9 gk q)
            | (have hgo := Bw10; clear hgo
               refine wpList_load_as rfl 27 (.tmp 8) rfl 256 (pyF f) arrPy r_t8 rfl (by omega) (fun i hi => by rw [Nat.zero_add]) ?_
               have Bw11 := Bw10
               clear Bw10)
            | (have hgo := Bw11; clear hgo
               go_at_call 12
               refine (HNf.out _).mono ?_
               rintro e w20 ⟨rfl, kk⟩
               replace r_t7 := zrb r_t7 kk
               replace r_t8 := zrb r_t8 kk
               replace r_t9 := zrb r_t9 kk
               replace r_t10 := zrb r_t10 kk
               have Bw12 := zbt HGS Bw11 kk
               clear Bw11 kk)
            | (have hgo := Bw12; clear hgo
               refine wpList_load_asg rfl 27 (.tmp 10) rfl 256 (pyF g) arrPy r_t10 rfl (by omega) (fun i hi => by rw [Nat.zero_add]) ?_
               have Bw13 := Bw12
               clear Bw12)
            | (have hgo := Bw13; clear hgo
               go_at_call 12
               refine (HNg.out _).mono ?_
               rintro e w24 ⟨rfl, kk⟩
               replace r_t7 := zrb r_t7 kk
               replace r_t8 := zrb r_t8 kk
               replace r_t9 := zrb r_t9 kk
               replace r_t10 := zrb r_t10 kk
               have Bw14 := zbt HGS Bw13 kk
               clear Bw13 kk)
            | (have hgo := Bw14; clear hgo
               go_at_call 9
               refine (awake10_any _).mono ?_
               rintro e w27 ⟨rfl, kk⟩
               replace r_t7 := zrb r_t7 kk
               replace r_t8 := zrb r_t8 kk
               replace r_t9 := zrb r_t9 kk
               replace r_t10 := zrb r_t10 kk
               have Bw15 := zbt HGS Bw14 kk
               clear Bw14 kk))
          go_ret
          exact ⟨rfl, Bw15⟩
      · have hma : mayN f = false := by simpa using hm0
        rw [hma] at HMf HNf
        have HAf := Lib.hid hma
        clear hma hm0
        go_enter Try.func7, Try.ntmps7
        go_wp2_with (first
          | (have hgo := Bw0; clear hgo
             go_at_call 10
             refine (HP0.out _ Bw0).mono ?_
             rintro e w2 ⟨rfl, kk⟩
             have Bw1 := zbt HGS Bw0 kk
             clear Bw0 kk)
          | (have hgo := Bw1; clear hgo
             refine wpList_alloc_row rfl 26 rfl 256 (pyF fun _ => 0) zeroP ?_
             intro b_t7 w6 lk r_t7 kk
             have l_t7 := zrl HGS Bw1 lk
             have Bw2 := zbt HGS Bw1 kk
             clear Bw1 kk lk)
          | (have hgo := Bw2; clear hgo
             refine wpList_alloc_row rfl 27 rfl 256 (pyF fun _ => 0) zeroPy ?_
             intro b_t8 w7 lk r_t8 kk
             have n_t7_t8 := zrn r_t7 lk
             have l_t8 := zrl HGS Bw2 lk
             replace r_t7 := zrb r_t7 kk
             have Bw3 := zbt HGS Bw2 kk
             clear Bw2 kk lk)
          | (have hgo := Bw3; clear hgo
             refine wpList_store_as rfl 26 (.tmp 7) (.tmp 28) rfl 256 (pyF f) arrP r_t7 rfl rfl (by omega) (fun _ _ => rfl) (fun i hi => putN_whole hi) ?_
             intro w8 q gk
             replace r_t8 := gb_rowIs r_t8 gk (Ne.symm n_t7_t8)
             replace r_t7 := q
             have Bw4 := zbg HGS Bw3 gk l_t7
             clear Bw3 gk q)
          | (have hgo := Bw4; clear hgo
             refine wpList_store_as rfl 27 (.tmp 8) (.tmp 29) rfl 256 (pyF f) arrPy r_t8 rfl rfl (by omega) (fun _ _ => rfl) (fun i hi => putN_whole hi) ?_
             intro w9 q gk
             replace r_t7 := gb_rowIs r_t7 gk n_t7_t8
             replace r_t8 := q
             have Bw5 := zbg HGS Bw4 gk l_t8
             clear Bw4 gk q)
          | (have hgo := Bw5; clear hgo
             go_at_call 10
             refine (HP1.out _ Bw5).mono ?_
             rintro e w11 ⟨rfl, kk⟩
             replace r_t7 := zrb r_t7 kk
             replace r_t8 := zrb r_t8 kk
             have Bw6 := zbt HGS Bw5 kk
             clear Bw5 kk)
          | (have hgo := Bw6; clear hgo
             refine wpList_alloc_row rfl 26 rfl 256 (pyF fun _ => 0) zeroP ?_
             intro b_t9 w15 lk r_t9 kk
             have n_t7_t9 := zrn r_t7 lk
             have n_t8_t9 := zrn r_t8 lk
             have l_t9 := zrl HGS Bw6 lk
             replace r_t7 := zrb r_t7 kk
             replace r_t8 := zrb r_t8 kk
             have Bw7 := zbt HGS Bw6 kk
             clear Bw6 kk lk)
          | (have hgo := Bw7; clear hgo
             refine wpList_alloc_row rfl 27 rfl 256 (pyF fun _ => 0) zeroPy ?_
             intro b_t10 w16 lk r_t10 kk
             have n_t7_t10 := zrn r_t7 lk
             have n_t8_t10 := zrn r_t8 lk
             have n_t9_t10 := zrn r_t9 lk
             have l_t10 := zrl HGS Bw7 lk
             replace r_t7 := zrb r_t7 kk
             replace r_t8 := zrb r_t8 kk
             replace r_t9 := zrb r_t9 kk
             have Bw8 := zbt HGS Bw7 kk
             clear Bw7 kk lk)
          | (have hgo := Bw8; clear hgo
             refine wpList_store_as rfl 26 (.tmp 9) (.tmp 33) rfl 256 (pyF g) arrP r_t9 rfl rfl (by omega) (fun _ _ => rfl) (fun i hi => putN_whole hi) ?_
             intro w17 q gk
             replace r_t7 := gb_rowIs r_t7 gk n_t7_t9
             replace r_t8 := gb_rowIs r_t8 gk n_t8_t9
             replace r_t10 := gb_rowIs r_t10 gk (Ne.symm n_t9_t10)
             replace r_t9 := q
             have Bw9 := zbg HGS Bw8 gk l_t9
             clear Bw8 gk q)
          | (have hgo := Bw9; clear hgo
             refine wpList_store_as rfl 27 (.tmp 10) (.tmp 34) rfl 256 (pyF g) arrPy r_t10 rfl rfl (by omega) (fun _ _ => rfl) (fun i hi => putN_whole hi) ?_
             intro w18 q gk
             replace r_t7 := gb_rowIs r_t7 gk n_t7_t10
             replace r_t8 := gb_rowIs r_t8 gk n_t8_t10
             replace r_t9 := gb_rowIs r_t9 gk n_t9_t10
             replace r_t10 := q
             have Bw10 := zbg HGS Bw9 gk l_t10
             clear Bw9 gk q)
          | (have hgo := Bw10; clear hgo
             refine wpList_load_as rfl 27 (.tmp 8) rfl 256 (pyF f) arrPy r_t8 rfl (by omega) (fun i hi => by rw [Nat.zero_add]) ?_
             have Bw11 := Bw10
             clear Bw10)
          | (have hgo := Bw11; clear hgo
             go_at_call 12
             refine (HNf.out _).mono ?_
             rintro e w20 ⟨rfl, kk⟩
             replace r_t7 := zrb r_t7 kk
             replace r_t8 := zrb r_t8 kk
             replace r_t9 := zrb r_t9 kk
             replace r_t10 := zrb r_t10 kk
             have Bw12 := zbt HGS Bw11 kk
             clear Bw11 kk)
          | (have hgo := Bw12; clear hgo
             go_at_call 9
             refine (awake10_any _).mono ?_
             rintro e w27 ⟨rfl, kk⟩
             replace r_t7 := zrb r_t7 kk
             replace r_t8 := zrb r_t8 kk
             replace r_t9 := zrb r_t9 kk
             replace r_t10 := zrb r_t10 kk
             have Bw13 := zbt HGS Bw12 kk
             clear Bw12 kk))
        go_ret
        exact ⟨rfl, Bw13⟩
    · have q1 : (256 : Int) < (n1 : Int) := by omega
      clear h0 hB0 e0 h1 hB1 e1 d0 d1
      go_enter Try.func7, Try.ntmps7
      go_wp2_with (first | (go_at_call 9; refine (awake10_any _).mono ?_; rintro e w9 ⟨rfl, hb9⟩))
      go_ret
      exact ⟨rfl, hb9⟩
  · have q0 : (256 : Int) < (n0 : Int) := by omega
    clear h0 hB0 e0 h1 hB1 e1 d0
    go_enter Try.func7, Try.ntmps7
    go_wp2_with (first | (go_at_call 9; refine (awake10_any _).mono ?_; rintro e w9 ⟨rfl, hb9⟩))
    go_ret
    exact ⟨rfl, hb9⟩
end Go.Proofs.Ytnpifjimmeehdaa
