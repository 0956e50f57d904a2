/- The document's X25519: the ladder. -/
import Derived.Test.YtnoppemclfnlcaaEdR
import Derived.Test.YtnoppemclfnlcaaPar
import Derived.Test.YtnoppemclfnlcaaBits8
import Derived.Test.YtnoppemclfnlcaaFeL
namespace Go.Proofs.Ytnoppemclfnlcaa
open Go.RowKit Go.Deep
set_option linter.unusedSimpArgs false
set_option linter.unusedVariables false

theorem exec_build_zero {P : Program} {w : World} (ρ : Operand → Value) (ty t : TypeId) (c : Array Value) (h : P.built ty [] = some c) :
    (execOp ρ (mkOp (.build ty #[]) t)).run P w = .ok (.value (.agg c)) w := by
  have hr := run_build w ty #[] c h
  simp [execOp, mkOp, hr, Result.andThen]
theorem builtFe : Try.prog.built 47 [] = some (arrOf 16 (u64f fun _ => 0)) := by kernel_rfl
/-- The calls of one step. -/
def CallB (f : Nat) (x y z : Nat) : Prop := ∀ w, Calls Try.prog f #[.agg (arrOf 16 (feF x)), .agg (arrOf 16 (feF y))] w fun e w' => e = .returned (.agg (arrOf 16 (feF z))) ∧ Below w.heap.size w w'
theorem x_calls (f1 f2 g1 g2 u : Nat) (hf1 : f1 < p25) (hf2 : f2 < p25) (hg1 : g1 < p25) (hg2 : g2 < p25) (hu : u < p25) :
    ∃ a aa b bb e c d da cb s n3 q q2 m3 n2 f h m2 : Nat,
      (CallB 26 f1 f2 a ∧ CallB 27 a a aa ∧ CallB 28 f1 f2 b ∧ CallB 27 b b bb ∧ CallB 28 aa bb e ∧
      CallB 26 g1 g2 c ∧ CallB 28 g1 g2 d ∧ CallB 27 d a da ∧ CallB 27 c b cb ∧ CallB 26 da cb s ∧ CallB 27 s s n3 ∧
      CallB 28 da cb q ∧ CallB 27 q q q2 ∧ CallB 27 u q2 m3 ∧ CallB 27 aa bb n2 ∧ CallB 27 121665 e f ∧ CallB 26 aa f h ∧ CallB 27 e h m2) ∧
      n2 = lx2 f1 f2 ∧ m2 = lz2 f1 f2 ∧ n3 = lx3 f1 f2 g1 g2 ∧ m3 = lz3 u f1 f2 g1 g2 := by
  have h121 : 121665 < p25 := Nat.lt_trans (show 121665 < 2 ^ 64 by decide) (by decide +kernel)
  refine ⟨_, _, _, _, _, _, _, _, _, _, _, _, _, _, _, _, _, _, ⟨fun w => refAdd5_any f1 f2 w hf1 hf2, fun w => refMul5_any _ _ w (addP_lt _ _) (addP_lt _ _), fun w => refSub_any f1 f2 w hf1 hf2, fun w => refMul5_any _ _ w (subP_lt _ _) (subP_lt _ _),
    fun w => refSub_any _ _ w (mulP_lt _ _) (mulP_lt _ _), fun w => refAdd5_any g1 g2 w hg1 hg2, fun w => refSub_any g1 g2 w hg1 hg2, fun w => refMul5_any _ _ w (subP_lt _ _) (addP_lt _ _), fun w => refMul5_any _ _ w (addP_lt _ _) (subP_lt _ _),
    fun w => refAdd5_any _ _ w (mulP_lt _ _) (mulP_lt _ _), fun w => refMul5_any _ _ w (addP_lt _ _) (addP_lt _ _), fun w => refSub_any _ _ w (mulP_lt _ _) (mulP_lt _ _), fun w => refMul5_any _ _ w (subP_lt _ _) (subP_lt _ _), fun w => refMul5_any _ _ w hu (mulP_lt _ _),
    fun w => refMul5_any _ _ w (mulP_lt _ _) (mulP_lt _ _), fun w => refMul5_any _ _ w h121 (subP_lt _ _), fun w => refAdd5_any _ _ w (mulP_lt _ _) (mulP_lt _ _), fun w => refMul5_any _ _ w (subP_lt _ _) (addP_lt _ _)⟩, rfl, rfl, rfl, rfl⟩
theorem ladS_next (u K i : Nat) : ladS u K (i + 1) = ladStep u (K / 2 ^ (254 - i) % 2) (ladS u K i) := rfl
set_option maxHeartbeats 8000000 in
set_option maxRecDepth 100000 in
theorem refX25519_any (v0 v1 : Value) (l0 l1 : List UInt8) (w : World) (h0 : Bs w v0 l0) (h1 : Bs w v1 l1) :
    Calls Try.prog 13 #[v0, v1] w fun e w' => ∃ v, e = .returned v ∧ Owns w' w.heap.size v (litB (ladder (ofL l1) (clampN l0)) 32) ∧ Below w.heap.size w w' := by
  have HCL := Lib.hid (refClamp_any v0 l0 w h0)
  have HV1 := Lib.hid h1
  have HOF := Lib.hid fun v w (h : Bs w v l1) => refOf_any v l1 w h
  obtain ⟨U, hU⟩ := nat_var (ofL l1)
  have HU : Hid (U < p25) := Lib.hid (by rw [hU]; exact ofL_lt l1)
  obtain ⟨K, hK⟩ := nat_var (clampN l0)
  rw [← hU] at HOF ⊢
  rw [← hK] at HCL ⊢
  have HGS : Hid (∀ wq : World, Below w.heap.size w wq → w.heap.size ≤ wq.heap.size) := Lib.hid fun wq h => h.size
  clear h0 h1 hU hK
  go_enter Try.func13, Try.ntmps13
  go_wp2_with (first
    | (go_at_call 11; refine HCL.out.mono ?_; rintro e w1 ⟨rfl, hk1, hb1⟩
       clear HCL)
    | (go_at_call 24; refine (HOF.out _ _ (HV1.out.below hb1 (Nat.le_refl _))).mono ?_; rintro e w2 ⟨rfl, hb2⟩
       have hk2 := (hk1.of_block (hb2.block _ hk1.lt)).alloc (.cells (arrOf 16 (u64f fun _ => 0)) 47)
       have hb3 := hb1.trans (hb2.mono hb1.size)
       have hb4 := hb3.alloc (HGS.out _ hb3) (.cells (arrOf 16 (u64f fun _ => 0)) 47)
       have hu2 := rowIs_arr w2 16 (u64f fun _ => 0) 47
       have hlt := hk1.lt
       have hle := hb2.size
       have hg0 := HGS.out _ hb3
       clear hk1 hb1 hb2 hb3 HV1 HOF)
    | refine wpList_alloc_arr rfl 47 rfl (arrOf 16 (u64f fun _ => 0)) zeroFe ?_
    | (refine wpList_store_arr rfl 47 (.tmp 6) (.tmp 26) rfl 16 arrFe hu2 rfl rfl (by omega) (fun _ _ => rfl) ?_; intro w5 hr5 hg5 hs5
       have hu5 : w5.rowIs w2.heap.size 47 16 (feF U) := hr5.congr fun i hi => by unfold putN; rw [if_pos (by omega), Nat.sub_zero]
       have hk5 := gb_rowIs hk2 hg5 (by omega)
       have hB5 := hb4.grown hg5 (HGS.out _ hb4) (by intro k hk; cases hk; exact hg0)
       clear hr5 hg5 hk2 hb4 hu2))
  generalize hgu : w2.heap.size = gu at *
  generalize hgk : w.heap.size = gk at *
  have nku : gk < gu := by omega
  have hltu := hu5.lt
  obtain ⟨B0, hBe⟩ := nat_var w5.heap.size
  have hgB : gu < B0 := by omega
  have hu6 := hu5.drew
  have hk6 := hk5.drew
  have hB6 : Below gk w w5.drew := hB5.drew
  have hS : B0 ≤ w5.drew.heap.size := by rw [hBe]; exact Nat.le_refl _
  clear hu5 hk5 hB5 hlt hle hs5
  refine wp_region_par (fun w1 w2 => Below B0 w1 w2) (fun _ => Below.refl _ _) (fun _ _ _ h1 h2 => h1.trans h2) 12 (.rd 1 (.rd 2 .done)) #[false, true, true, false, false, false, false, false, false, false, false, false] [0, 3, 4, 5, 6, 7] [27, 30, 7, 8, 9, 10] [(.wr 8 (.wr 9 (.wr 10 (.wr 11 .done))), 11)] (by kernel_rfl) (by kernel_rfl) (by decide) (by kernel_rfl) (by kernel_rfl) (by kernel_rfl) (by decide) rfl (fun d _ _ _ _ h => by cases d <;> exact h) ?_
  refine lintz_pure 28 (Op.build 47 #[]) _ (.agg (arrOf 16 (u64f fun _ => 0))) rfl rfl rfl rfl rfl (fun w' hb => by exact exec_build_zero _ _ _ _ builtFe) ?_
  simp only [Act.put, List.setIfInBounds_toArray, List.set_cons_zero, List.set_cons_succ, Nat.zero_add]
  refine lintz_pure 29 (Op.load 47 (.tmp 6)) _ (.agg (arrOf 16 fun i => feF U (0 + i))) rfl rfl rfl rfl rfl (fun w' hb => by exact exec_load_arr _ _ _ _ rfl arrFe (hu6.of_block (hb.block _ hgB)) (by omega)) ?_
  simp only [Act.put, List.setIfInBounds_toArray, List.set_cons_zero, List.set_cons_succ, Nat.zero_add]
  refine lintz_leaf ?_
  refine ⟨JP B0 (fun p => if p < 2 then some (.agg (arrOf 16 (feF 1))) else none) 47 16 (u64f fun _ => 0), JP.start, fun m g wa p aa hp hm hmp hE hJ => ?_, fun g wa hE hJ => ?_⟩
  · have hBw := Nat.le_trans hS hE.size
    rcases (show p = 0 ∨ p = 1 ∨ p = 2 ∨ p = 3 ∨ p = 4 ∨ p = 5 by have h6 : p < 6 := hp; omega) with rfl | rfl | rfl | rfl | rfl | rfl
    · refine parz_fn 27 25 #[.const (.int .u64 1)] #[39] _ (refSmall_any 1 _ (by decide)) rfl rfl rfl rfl Try.func25 (by kernel_rfl) (by kernel_rfl) (by go_simp) ?_
      rintro e wb ⟨rfl, hb⟩
      exact ⟨_, rfl, hE.trans (hb.mono hBw), _, rfl, hJ.call hb rfl⟩
    · refine parz_fn 30 25 #[.const (.int .u64 1)] #[39] _ (refSmall_any 1 _ (by decide)) rfl rfl rfl rfl Try.func25 (by kernel_rfl) (by kernel_rfl) (by go_simp) ?_
      rintro e wb ⟨rfl, hb⟩
      exact ⟨_, rfl, hE.trans (hb.mono hBw), _, rfl, hJ.call hb rfl⟩
    all_goals
      refine parz_made _ (Op.alloc 47) _ _ _ rfl rfl rfl rfl rfl (exec_alloc_arr _ _ _ (arrOf 16 (u64f fun _ => 0)) zeroFe) ?_
      exact ⟨hE.trans ((Below.refl _ _).alloc hBw _), _, rfl, hJ.alloc hBw rfl (rowIs_arr _ _ _ _)⟩
  · obtain ⟨g7, p7, l7, r7, d7⟩ := hJ.row 2 (by decide) rfl
    obtain ⟨g8, p8, l8, r8, d8⟩ := hJ.row 3 (by decide) rfl
    obtain ⟨g9, p9, l9, r9, d9⟩ := hJ.row 4 (by decide) rfl
    obtain ⟨g10, p10, l10, r10, d10⟩ := hJ.row 5 (by decide) rfl
    have q0 := hJ.val 0 (by decide) rfl
    have q1 := hJ.val 1 (by decide) rfl
    have n_x2_z2 : g7 ≠ g8 := ptr_ne (by rw [← p7, ← p8]; exact d8 2 (by decide) (by decide) rfl)
    have n_x2_x3 : g7 ≠ g9 := ptr_ne (by rw [← p7, ← p9]; exact d9 2 (by decide) (by decide) rfl)
    have n_x2_z3 : g7 ≠ g10 := ptr_ne (by rw [← p7, ← p10]; exact d10 2 (by decide) (by decide) rfl)
    have n_z2_x3 : g8 ≠ g9 := ptr_ne (by rw [← p8, ← p9]; exact d9 3 (by decide) (by decide) rfl)
    have n_z2_z3 : g8 ≠ g10 := ptr_ne (by rw [← p8, ← p10]; exact d10 3 (by decide) (by decide) rfl)
    have n_x3_z3 : g9 ≠ g10 := ptr_ne (by rw [← p9, ← p10]; exact d10 4 (by decide) (by decide) rfl)
    clear d7 d8 d9 d10
    have BA := hB6.trans (hE.mono (by omega))
    have ruA := hu6.of_block (hE.block _ hgB)
    have rkA := hk6.of_block (hE.block _ (by omega))
    show LinP _ _ _ _ _ ((((((Act.put _ (some 27) (g 0)).put (some 30) (g 1)).put (some 7) (g 2)).put (some 8) (g 3)).put (some 9) (g 4)).put (some 10) (g 5)) wa
    rw [p7, p8, p9, p10, q0, q1]
    simp only [Act.put, List.setIfInBounds_toArray, List.set_cons_zero, List.set_cons_succ, Nat.zero_add]
    have n_k_u : gk ≠ gu := by omega
    have n_k_x2 : gk ≠ g7 := by omega
    have n_k_z2 : gk ≠ g8 := by omega
    have n_k_x3 : gk ≠ g9 := by omega
    have n_k_z3 : gk ≠ g10 := by omega
    have n_u_x2 : gu ≠ g7 := by omega
    have n_u_z2 : gu ≠ g8 := by omega
    have n_u_x3 : gu ≠ g9 := by omega
    have n_u_z3 : gu ≠ g10 := by omega
    have l_x2 : gk ≤ g7 := by omega
    have l_z2 : gk ≤ g8 := by omega
    have l_x3 : gk ≤ g9 := by omega
    have l_z3 : gk ≤ g10 := by omega
    have hBa : B0 ≤ wa.heap.size := Nat.le_trans hS hE.size
    clear p7 p8 p9 p10 q0 q1 hJ hE hB6 hu6 hk6 hS
    refine linp_seg (fun a' w' => _) ?_ (fun _ _ h => linp_end h)
    refine stpz_store_arr (k := 16) (off := 0) 47 (.tmp 7) (.tmp 27) rfl rfl rfl rfl r7 rfl rfl arrFe (by omega) (fun _ _ => rfl) ?_
    intro xa hra hga hsa
    refine ⟨(Below.refl _ _).grown hga hBa (by intro k hk; cases hk; exact l7), ?_⟩
    replace r7 : xa.rowIs g7 47 16 (feF 1) := hra.congr fun i hi => by unfold putN; rw [if_pos (by omega), Nat.sub_zero]
    replace r8 := gb_rowIs r8 hga (Ne.symm n_x2_z2)
    replace r9 := gb_rowIs r9 hga (Ne.symm n_x2_x3)
    replace r10 := gb_rowIs r10 hga (Ne.symm n_x2_z3)
    replace ruA := gb_rowIs ruA hga n_u_x2
    replace rkA := gb_rowIs rkA hga n_k_x2
    replace BA := BA.grown hga (HGS.out _ BA) (by intro k hk; cases hk; exact l_x2)
    have hBb : B0 ≤ xa.heap.size := Nat.le_trans hBa hga.size
    clear hra hga hsa hBa
    refine stpz_store_arr (k := 16) (off := 0) 47 (.tmp 8) (.tmp 28) rfl rfl rfl rfl r8 rfl rfl arrFe (by omega) (fun _ _ => rfl) ?_
    intro xb hrb hgb hsb
    refine ⟨(Below.refl _ _).grown hgb hBb (by intro k hk; cases hk; exact l8), ?_⟩
    replace r8 : xb.rowIs g8 47 16 (u64f fun _ => 0) := hrb.congr fun i hi => by unfold putN; rw [if_pos (by omega), Nat.sub_zero]
    replace r7 := gb_rowIs r7 hgb n_x2_z2
    replace r9 := gb_rowIs r9 hgb (Ne.symm n_z2_x3)
    replace r10 := gb_rowIs r10 hgb (Ne.symm n_z2_z3)
    replace ruA := gb_rowIs ruA hgb n_u_z2
    replace rkA := gb_rowIs rkA hgb n_k_z2
    replace BA := BA.grown hgb (HGS.out _ BA) (by intro k hk; cases hk; exact l_z2)
    have hBc : B0 ≤ xb.heap.size := Nat.le_trans hBb hgb.size
    clear hrb hgb hsb hBb
    refine stpz_store_arr (k := 16) (off := 0) 47 (.tmp 9) (.tmp 29) rfl rfl rfl rfl r9 rfl rfl arrFe (by omega) (fun _ _ => rfl) ?_
    intro xc hrc hgc hsc
    refine ⟨(Below.refl _ _).grown hgc hBc (by intro k hk; cases hk; exact l9), ?_⟩
    replace r9 : xc.rowIs g9 47 16 (feF U) := hrc.congr fun i hi => by unfold putN; rw [if_pos (by omega), Nat.sub_zero]
    replace r7 := gb_rowIs r7 hgc n_x2_x3
    replace r8 := gb_rowIs r8 hgc n_z2_x3
    replace r10 := gb_rowIs r10 hgc (Ne.symm n_x3_z3)
    replace ruA := gb_rowIs ruA hgc n_u_x3
    replace rkA := gb_rowIs rkA hgc n_k_x3
    replace BA := BA.grown hgc (HGS.out _ BA) (by intro k hk; cases hk; exact l_x3)
    have hBd : B0 ≤ xc.heap.size := Nat.le_trans hBc hgc.size
    clear hrc hgc hsc hBc
    refine stpz_store_arr (k := 16) (off := 0) 47 (.tmp 10) (.tmp 30) rfl rfl rfl rfl r10 rfl rfl arrFe (by omega) (fun _ _ => rfl) ?_
    intro xd hrd hgd hsd
    refine ⟨(Below.refl _ _).grown hgd hBd (by intro k hk; cases hk; exact l10), ?_⟩
    replace r10 : xd.rowIs g10 47 16 (feF 1) := hrd.congr fun i hi => by unfold putN; rw [if_pos (by omega), Nat.sub_zero]
    replace r7 := gb_rowIs r7 hgd n_x2_z3
    replace r8 := gb_rowIs r8 hgd n_z2_z3
    replace r9 := gb_rowIs r9 hgd n_x3_z3
    replace ruA := gb_rowIs ruA hgd n_u_z3
    replace rkA := gb_rowIs rkA hgd n_k_z3
    replace BA := BA.grown hgd (HGS.out _ BA) (by intro k hk; cases hk; exact l_z3)
    clear hrd hgd hsd hBd
    refine lintz_leaf ?_
    clear hgB hltu hBe l7 l8 l9 l10 hg0
    go_wp2
    go_loopw [11, 12] (fun sv tv wr => ∃ i : Nat, ∃ s, i ≤ 255 ∧ s = ladS U K i ∧ sv = .int .i64 (s.1 : Int) ∧ tv = .int .i64 (254 - (i : Int)) ∧ wr.rowIs g7 47 16 (feF s.2.1.1) ∧ wr.rowIs g8 47 16 (feF s.2.1.2) ∧ wr.rowIs g9 47 16 (feF s.2.2.1) ∧ wr.rowIs g10 47 16 (feF s.2.2.2) ∧ wr.rowIs gu 47 16 (feF U) ∧ wr.rowIs gk 5 32 (kF K) ∧ Below gk w wr) (fun _ tv _ => ((intOf tv) + 1).toNat)
    case atStart =>
      refine ⟨0, _, Nat.zero_le _, rfl, rfl, rfl, r7, r8.congr fun i hi => ?_, r9, r10, ruA, rkA, BA⟩
      show (u64f fun _ => 0) i = feF 0 i
      unfold feF u64f dig
      rw [Nat.zero_div, Nat.zero_mod]
    case round =>
    clear r7 r8 r9 r10 ruA rkA BA
    obtain ⟨i, s, hi, hs, rfl, rfl, rx2, rz2, rx3, rz3, ru, rk, B⟩ := hrel
    have HUL := HU.out
    have hlt := ladS_lt U K HUL i
    rw [← hs] at hlt
    obtain ⟨hlp1, hlp2, hlp3, hlp4⟩ := hlt
    have HS := Lib.hid hs
    clear HUL
    by_cases h255 : i < 255
    · obtain ⟨tt, htt⟩ := nat_var (254 - i)
      have htI : 254 - (i : Int) = (tt : Int) := by omega
      rw [htI]
      have HTI := Lib.hid (show (tt : Int) = 254 - (i : Int) from htI.symm)
      have ht0 : 0 ≤ (tt : Int) := by omega
      obtain ⟨t8, ht8⟩ := nat_var (tt / 8)
      obtain ⟨tr, htr⟩ := nat_var (tt % 8)
      have hi8 : 0 ≤ (t8 : Int) ∧ (t8 : Int) < 32 := by omega
      have hcell := rk.cell (i := t8) (by omega)
      have hbt := bit_at K tt
      rw [← ht8, ← htr] at hbt
      unfold kF at hcell
      obtain ⟨x, hx⟩ := nat_var (byteN K t8)
      have hxl : x < 256 := by rw [hx]; exact byteN_lt K t8
      rw [← hx] at hcell hbt
      obtain ⟨y, hy⟩ := nat_var (x / 2 ^ tr)
      have hyl : y < 256 := by rw [hy]; exact Nat.lt_of_le_of_lt (Nat.div_le_self _ _) hxl
      rw [← hy] at hbt
      obtain ⟨bt, hb⟩ := nat_var (y % 2)
      rw [← hb, htt] at hbt
      have HBI := Lib.hid hbt.symm
      have hbt2 : bt < 2 := by omega
      have hwb : IntKind.i64.wrap (bt : Int) = (bt : Int) := IntWalk.i64_in _ (by omega)
      have HT8 := Lib.hid ht8
      have HR8 := Lib.hid htr
      have HTT : Hid (tt < 1000) := Lib.hid (by omega)
      have HSH := Lib.hid hy
      have HRL : Hid (tr < 8) := Lib.hid (by omega)
      have HXL := Lib.hid hxl
      have HBT := Lib.hid hb
      have HYL := Lib.hid hyl
      have htn : IntKind.i64.wrap ((tt : Int) - 1) = (tt : Int) - 1 := IntWalk.i64_in _ (by omega)
      clear hs hb hbt hy hyl hxl hx htr ht8 htt htI
      obtain ⟨sb, ⟨p1, p2⟩, ⟨p3, p4⟩⟩ := s
      dsimp only at *
      by_cases hsb : sb = bt
      · have HSB : Hid (sb = bt) := Lib.hid hsb
        subst hsb
        obtain ⟨a, aa, b, bb, e, c, d, da, cb, s, n3, q, q2, m3, n2, f, h, m2, ⟨hCA, hCAA, hCB, hCBB, hCE, hCC, hCD, hCDA, hCCB, hCS, hCN3, hCQ, hCQ2, hCM3, hCN2, hCF, hCH, hCM2⟩, en2, em2, en3, em3⟩ := x_calls p1 p2 p3 p4 U hlp1 hlp2 hlp3 hlp4 HU.out
        unfold CallB at hCA hCAA hCB hCBB hCE hCC hCD hCDA hCCB hCS hCN3 hCQ hCQ2 hCM3 hCN2 hCF hCH hCM2
        have CA := Lib.hid hCA
        have CAA := Lib.hid hCAA
        have CB := Lib.hid hCB
        have CBB := Lib.hid hCBB
        have CE := Lib.hid hCE
        have CC := Lib.hid hCC
        have CD := Lib.hid hCD
        have CDA := Lib.hid hCDA
        have CCB := Lib.hid hCCB
        have CS := Lib.hid hCS
        have CN3 := Lib.hid hCN3
        have CQ := Lib.hid hCQ
        have CQ2 := Lib.hid hCQ2
        have CM3 := Lib.hid hCM3
        have CN2 := Lib.hid hCN2
        have CF := Lib.hid hCF
        have CH := Lib.hid hCH
        have CM2 := Lib.hid hCM2
        replace en2 := Lib.hid en2
        replace em2 := Lib.hid em2
        replace en3 := Lib.hid en3
        replace em3 := Lib.hid em3
        clear hCA hCAA hCB hCBB hCE hCC hCD hCDA hCCB hCS hCN3 hCQ hCQ2 hCM3 hCN2 hCF hCH hCM2
        go_wp2_with (first
          | refine wpList_quo8 rfl (.tmp 36) (.const (.int .i64 8)) rfl rfl rfl HT8.out HTT.out ?_
          | refine wpList_rem8 rfl (.tmp 40) (.const (.int .i64 8)) rfl rfl rfl HR8.out HTT.out ?_
          | refine wpList_shr8 rfl (.tmp 39) (.tmp 41) rfl rfl rfl HSH.out HRL.out HXL.out ?_
          | refine wpList_and1 rfl (.tmp 42) (.const (.int .u8 1)) rfl rfl rfl HBT.out HYL.out ?_
          | (refine wpList_load_arr rfl 47 (.tmp 7) rfl 16 arrFe rx2 rfl (by omega) ?_; simp only [Nat.zero_add])
          | (refine wpList_load_arr rfl 47 (.tmp 8) rfl 16 arrFe rz2 rfl (by omega) ?_; simp only [Nat.zero_add])
          | (go_at_call 26
             first
               | (have hgo := B; clear hgo; refine (CA.out _).mono ?_; rintro e w201 ⟨rfl, hb201⟩
                  have r201_k := World.rowIs.of_block rk (hb201.block _ (World.rowIs.lt rk))
                  have r201_u := World.rowIs.of_block ru (hb201.block _ (World.rowIs.lt ru))
                  have r201_x2 := World.rowIs.of_block rx2 (hb201.block _ (World.rowIs.lt rx2))
                  have r201_z2 := World.rowIs.of_block rz2 (hb201.block _ (World.rowIs.lt rz2))
                  have r201_x3 := World.rowIs.of_block rx3 (hb201.block _ (World.rowIs.lt rx3))
                  have r201_z3 := World.rowIs.of_block rz3 (hb201.block _ (World.rowIs.lt rz3))
                  have B201 := B.trans (hb201.mono (HGS.out _ B))
                  clear rk ru rx2 rz2 rx3 rz3 B hb201
                  have lt202_k := World.rowIs.lt r201_k
                  try simp only [World.size_alloc] at lt202_k
                  have lt202_u := World.rowIs.lt r201_u
                  try simp only [World.size_alloc] at lt202_u
                  have lt202_x2 := World.rowIs.lt r201_x2
                  try simp only [World.size_alloc] at lt202_x2
                  have lt202_z2 := World.rowIs.lt r201_z2
                  try simp only [World.size_alloc] at lt202_z2
                  have lt202_x3 := World.rowIs.lt r201_x3
                  try simp only [World.size_alloc] at lt202_x3
                  have lt202_z3 := World.rowIs.lt r201_z3
                  try simp only [World.size_alloc] at lt202_z3
                  have g202 := HGS.out _ B201
                  try simp only [World.size_alloc] at g202
                  have r202_k := World.rowIs.alloc r201_k (.cells (arrOf 16 (u64f fun _ => 0)) 47)
                  have r202_u := World.rowIs.alloc r201_u (.cells (arrOf 16 (u64f fun _ => 0)) 47)
                  have r202_x2 := World.rowIs.alloc r201_x2 (.cells (arrOf 16 (u64f fun _ => 0)) 47)
                  have r202_z2 := World.rowIs.alloc r201_z2 (.cells (arrOf 16 (u64f fun _ => 0)) 47)
                  have r202_x3 := World.rowIs.alloc r201_x3 (.cells (arrOf 16 (u64f fun _ => 0)) 47)
                  have r202_z3 := World.rowIs.alloc r201_z3 (.cells (arrOf 16 (u64f fun _ => 0)) 47)
                  have B202 := B201.alloc (HGS.out _ B201) (.cells (arrOf 16 (u64f fun _ => 0)) 47)
                  have r202_t14 := rowIs_arr w201 16 (u64f fun _ => 0) 47
                  try simp only [World.size_alloc] at r202_t14
                  clear B201)
               | (have hgo := B215; clear hgo; refine (CC.out _).mono ?_; rintro e w216 ⟨rfl, hb216⟩
                  have r216_k := World.rowIs.of_block r215_k (hb216.block _ (World.rowIs.lt r215_k))
                  have r216_u := World.rowIs.of_block r215_u (hb216.block _ (World.rowIs.lt r215_u))
                  have r216_x2 := World.rowIs.of_block r215_x2 (hb216.block _ (World.rowIs.lt r215_x2))
                  have r216_z2 := World.rowIs.of_block r215_z2 (hb216.block _ (World.rowIs.lt r215_z2))
                  have r216_x3 := World.rowIs.of_block r215_x3 (hb216.block _ (World.rowIs.lt r215_x3))
                  have r216_z3 := World.rowIs.of_block r215_z3 (hb216.block _ (World.rowIs.lt r215_z3))
                  have r216_t14 := World.rowIs.of_block r215_t14 (hb216.block _ (World.rowIs.lt r215_t14))
                  have r216_t15 := World.rowIs.of_block r215_t15 (hb216.block _ (World.rowIs.lt r215_t15))
                  have r216_t16 := World.rowIs.of_block r215_t16 (hb216.block _ (World.rowIs.lt r215_t16))
                  have r216_t17 := World.rowIs.of_block r215_t17 (hb216.block _ (World.rowIs.lt r215_t17))
                  have r216_t18 := World.rowIs.of_block r215_t18 (hb216.block _ (World.rowIs.lt r215_t18))
                  have B216 := B215.trans (hb216.mono (HGS.out _ B215))
                  clear r215_k r215_u r215_x2 r215_z2 r215_x3 r215_z3 r215_t14 r215_t15 r215_t16 r215_t17 r215_t18 B215 hb216
                  have lt217_k := World.rowIs.lt r216_k
                  try simp only [World.size_alloc] at lt217_k
                  have lt217_u := World.rowIs.lt r216_u
                  try simp only [World.size_alloc] at lt217_u
                  have lt217_x2 := World.rowIs.lt r216_x2
                  try simp only [World.size_alloc] at lt217_x2
                  have lt217_z2 := World.rowIs.lt r216_z2
                  try simp only [World.size_alloc] at lt217_z2
                  have lt217_x3 := World.rowIs.lt r216_x3
                  try simp only [World.size_alloc] at lt217_x3
                  have lt217_z3 := World.rowIs.lt r216_z3
                  try simp only [World.size_alloc] at lt217_z3
                  have lt217_t14 := World.rowIs.lt r216_t14
                  try simp only [World.size_alloc] at lt217_t14
                  have lt217_t15 := World.rowIs.lt r216_t15
                  try simp only [World.size_alloc] at lt217_t15
                  have lt217_t16 := World.rowIs.lt r216_t16
                  try simp only [World.size_alloc] at lt217_t16
                  have lt217_t17 := World.rowIs.lt r216_t17
                  try simp only [World.size_alloc] at lt217_t17
                  have lt217_t18 := World.rowIs.lt r216_t18
                  try simp only [World.size_alloc] at lt217_t18
                  have g217 := HGS.out _ B216
                  try simp only [World.size_alloc] at g217
                  have r217_k := World.rowIs.alloc r216_k (.cells (arrOf 16 (u64f fun _ => 0)) 47)
                  have r217_u := World.rowIs.alloc r216_u (.cells (arrOf 16 (u64f fun _ => 0)) 47)
                  have r217_x2 := World.rowIs.alloc r216_x2 (.cells (arrOf 16 (u64f fun _ => 0)) 47)
                  have r217_z2 := World.rowIs.alloc r216_z2 (.cells (arrOf 16 (u64f fun _ => 0)) 47)
                  have r217_x3 := World.rowIs.alloc r216_x3 (.cells (arrOf 16 (u64f fun _ => 0)) 47)
                  have r217_z3 := World.rowIs.alloc r216_z3 (.cells (arrOf 16 (u64f fun _ => 0)) 47)
                  have r217_t14 := World.rowIs.alloc r216_t14 (.cells (arrOf 16 (u64f fun _ => 0)) 47)
                  have r217_t15 := World.rowIs.alloc r216_t15 (.cells (arrOf 16 (u64f fun _ => 0)) 47)
                  have r217_t16 := World.rowIs.alloc r216_t16 (.cells (arrOf 16 (u64f fun _ => 0)) 47)
                  have r217_t17 := World.rowIs.alloc r216_t17 (.cells (arrOf 16 (u64f fun _ => 0)) 47)
                  have r217_t18 := World.rowIs.alloc r216_t18 (.cells (arrOf 16 (u64f fun _ => 0)) 47)
                  have B217 := B216.alloc (HGS.out _ B216) (.cells (arrOf 16 (u64f fun _ => 0)) 47)
                  have r217_t19 := rowIs_arr w216 16 (u64f fun _ => 0) 47
                  try simp only [World.size_alloc] at r217_t19
                  clear B216)
               | (have hgo := B227; clear hgo; refine (CS.out _).mono ?_; rintro e w228 ⟨rfl, hb228⟩
                  have r228_k := World.rowIs.of_block r227_k (hb228.block _ (World.rowIs.lt r227_k))
                  have r228_u := World.rowIs.of_block r227_u (hb228.block _ (World.rowIs.lt r227_u))
                  have r228_x2 := World.rowIs.of_block r227_x2 (hb228.block _ (World.rowIs.lt r227_x2))
                  have r228_z2 := World.rowIs.of_block r227_z2 (hb228.block _ (World.rowIs.lt r227_z2))
                  have r228_x3 := World.rowIs.of_block r227_x3 (hb228.block _ (World.rowIs.lt r227_x3))
                  have r228_z3 := World.rowIs.of_block r227_z3 (hb228.block _ (World.rowIs.lt r227_z3))
                  have r228_t14 := World.rowIs.of_block r227_t14 (hb228.block _ (World.rowIs.lt r227_t14))
                  have r228_t15 := World.rowIs.of_block r227_t15 (hb228.block _ (World.rowIs.lt r227_t15))
                  have r228_t16 := World.rowIs.of_block r227_t16 (hb228.block _ (World.rowIs.lt r227_t16))
                  have r228_t17 := World.rowIs.of_block r227_t17 (hb228.block _ (World.rowIs.lt r227_t17))
                  have r228_t18 := World.rowIs.of_block r227_t18 (hb228.block _ (World.rowIs.lt r227_t18))
                  have r228_t19 := World.rowIs.of_block r227_t19 (hb228.block _ (World.rowIs.lt r227_t19))
                  have r228_t20 := World.rowIs.of_block r227_t20 (hb228.block _ (World.rowIs.lt r227_t20))
                  have r228_t21 := World.rowIs.of_block r227_t21 (hb228.block _ (World.rowIs.lt r227_t21))
                  have r228_t22 := World.rowIs.of_block r227_t22 (hb228.block _ (World.rowIs.lt r227_t22))
                  have B228 := B227.trans (hb228.mono (HGS.out _ B227))
                  clear r227_k r227_u r227_x2 r227_z2 r227_x3 r227_z3 r227_t14 r227_t15 r227_t16 r227_t17 r227_t18 r227_t19 r227_t20 r227_t21 r227_t22 B227 hb228))
          | (refine wpList_alloc_arr rfl 47 rfl (arrOf 16 (u64f fun _ => 0)) zeroFe ?_; try simp only [World.size_alloc])
          | (refine wpList_store_arr rfl 47 (.tmp 14) (.tmp 55) rfl 16 arrFe r202_t14 rfl rfl (by omega) (fun _ _ => rfl) ?_; intro x203 hr203 hg203 hs203
             have r203_t14 : x203.rowIs (w201.heap.size) 47 16 (feF a) := hr203.congr fun i hi => by unfold putN; rw [if_pos (by omega), Nat.sub_zero]
             have r203_k := gb_rowIs r202_k hg203 (Nat.ne_of_lt lt202_k)
             have r203_u := gb_rowIs r202_u hg203 (Nat.ne_of_lt lt202_u)
             have r203_x2 := gb_rowIs r202_x2 hg203 (Nat.ne_of_lt lt202_x2)
             have r203_z2 := gb_rowIs r202_z2 hg203 (Nat.ne_of_lt lt202_z2)
             have r203_x3 := gb_rowIs r202_x3 hg203 (Nat.ne_of_lt lt202_x3)
             have r203_z3 := gb_rowIs r202_z3 hg203 (Nat.ne_of_lt lt202_z3)
             have B203 := B202.grown hg203 (HGS.out _ B202) (by intro k hk; cases hk; exact g202)
             clear r202_t14 r202_k r202_u r202_x2 r202_z2 r202_x3 r202_z3 B202 hr203 hg203 hs203)
          | (refine wpList_load_arr rfl 47 (.tmp 14) rfl 16 arrFe r203_t14 rfl (by omega) ?_; simp only [Nat.zero_add])
          | (go_at_call 27
             first
               | (have hgo := B203; clear hgo; refine (CAA.out _).mono ?_; rintro e w204 ⟨rfl, hb204⟩
                  have r204_k := World.rowIs.of_block r203_k (hb204.block _ (World.rowIs.lt r203_k))
                  have r204_u := World.rowIs.of_block r203_u (hb204.block _ (World.rowIs.lt r203_u))
                  have r204_x2 := World.rowIs.of_block r203_x2 (hb204.block _ (World.rowIs.lt r203_x2))
                  have r204_z2 := World.rowIs.of_block r203_z2 (hb204.block _ (World.rowIs.lt r203_z2))
                  have r204_x3 := World.rowIs.of_block r203_x3 (hb204.block _ (World.rowIs.lt r203_x3))
                  have r204_z3 := World.rowIs.of_block r203_z3 (hb204.block _ (World.rowIs.lt r203_z3))
                  have r204_t14 := World.rowIs.of_block r203_t14 (hb204.block _ (World.rowIs.lt r203_t14))
                  have B204 := B203.trans (hb204.mono (HGS.out _ B203))
                  clear r203_k r203_u r203_x2 r203_z2 r203_x3 r203_z3 r203_t14 B203 hb204
                  have lt205_k := World.rowIs.lt r204_k
                  try simp only [World.size_alloc] at lt205_k
                  have lt205_u := World.rowIs.lt r204_u
                  try simp only [World.size_alloc] at lt205_u
                  have lt205_x2 := World.rowIs.lt r204_x2
                  try simp only [World.size_alloc] at lt205_x2
                  have lt205_z2 := World.rowIs.lt r204_z2
                  try simp only [World.size_alloc] at lt205_z2
                  have lt205_x3 := World.rowIs.lt r204_x3
                  try simp only [World.size_alloc] at lt205_x3
                  have lt205_z3 := World.rowIs.lt r204_z3
                  try simp only [World.size_alloc] at lt205_z3
                  have lt205_t14 := World.rowIs.lt r204_t14
                  try simp only [World.size_alloc] at lt205_t14
                  have g205 := HGS.out _ B204
                  try simp only [World.size_alloc] at g205
                  have r205_k := World.rowIs.alloc r204_k (.cells (arrOf 16 (u64f fun _ => 0)) 47)
                  have r205_u := World.rowIs.alloc r204_u (.cells (arrOf 16 (u64f fun _ => 0)) 47)
                  have r205_x2 := World.rowIs.alloc r204_x2 (.cells (arrOf 16 (u64f fun _ => 0)) 47)
                  have r205_z2 := World.rowIs.alloc r204_z2 (.cells (arrOf 16 (u64f fun _ => 0)) 47)
                  have r205_x3 := World.rowIs.alloc r204_x3 (.cells (arrOf 16 (u64f fun _ => 0)) 47)
                  have r205_z3 := World.rowIs.alloc r204_z3 (.cells (arrOf 16 (u64f fun _ => 0)) 47)
                  have r205_t14 := World.rowIs.alloc r204_t14 (.cells (arrOf 16 (u64f fun _ => 0)) 47)
                  have B205 := B204.alloc (HGS.out _ B204) (.cells (arrOf 16 (u64f fun _ => 0)) 47)
                  have r205_t15 := rowIs_arr w204 16 (u64f fun _ => 0) 47
                  try simp only [World.size_alloc] at r205_t15
                  clear B204)
               | (have hgo := B209; clear hgo; refine (CBB.out _).mono ?_; rintro e w210 ⟨rfl, hb210⟩
                  have r210_k := World.rowIs.of_block r209_k (hb210.block _ (World.rowIs.lt r209_k))
                  have r210_u := World.rowIs.of_block r209_u (hb210.block _ (World.rowIs.lt r209_u))
                  have r210_x2 := World.rowIs.of_block r209_x2 (hb210.block _ (World.rowIs.lt r209_x2))
                  have r210_z2 := World.rowIs.of_block r209_z2 (hb210.block _ (World.rowIs.lt r209_z2))
                  have r210_x3 := World.rowIs.of_block r209_x3 (hb210.block _ (World.rowIs.lt r209_x3))
                  have r210_z3 := World.rowIs.of_block r209_z3 (hb210.block _ (World.rowIs.lt r209_z3))
                  have r210_t14 := World.rowIs.of_block r209_t14 (hb210.block _ (World.rowIs.lt r209_t14))
                  have r210_t15 := World.rowIs.of_block r209_t15 (hb210.block _ (World.rowIs.lt r209_t15))
                  have r210_t16 := World.rowIs.of_block r209_t16 (hb210.block _ (World.rowIs.lt r209_t16))
                  have B210 := B209.trans (hb210.mono (HGS.out _ B209))
                  clear r209_k r209_u r209_x2 r209_z2 r209_x3 r209_z3 r209_t14 r209_t15 r209_t16 B209 hb210
                  have lt211_k := World.rowIs.lt r210_k
                  try simp only [World.size_alloc] at lt211_k
                  have lt211_u := World.rowIs.lt r210_u
                  try simp only [World.size_alloc] at lt211_u
                  have lt211_x2 := World.rowIs.lt r210_x2
                  try simp only [World.size_alloc] at lt211_x2
                  have lt211_z2 := World.rowIs.lt r210_z2
                  try simp only [World.size_alloc] at lt211_z2
                  have lt211_x3 := World.rowIs.lt r210_x3
                  try simp only [World.size_alloc] at lt211_x3
                  have lt211_z3 := World.rowIs.lt r210_z3
                  try simp only [World.size_alloc] at lt211_z3
                  have lt211_t14 := World.rowIs.lt r210_t14
                  try simp only [World.size_alloc] at lt211_t14
                  have lt211_t15 := World.rowIs.lt r210_t15
                  try simp only [World.size_alloc] at lt211_t15
                  have lt211_t16 := World.rowIs.lt r210_t16
                  try simp only [World.size_alloc] at lt211_t16
                  have g211 := HGS.out _ B210
                  try simp only [World.size_alloc] at g211
                  have r211_k := World.rowIs.alloc r210_k (.cells (arrOf 16 (u64f fun _ => 0)) 47)
                  have r211_u := World.rowIs.alloc r210_u (.cells (arrOf 16 (u64f fun _ => 0)) 47)
                  have r211_x2 := World.rowIs.alloc r210_x2 (.cells (arrOf 16 (u64f fun _ => 0)) 47)
                  have r211_z2 := World.rowIs.alloc r210_z2 (.cells (arrOf 16 (u64f fun _ => 0)) 47)
                  have r211_x3 := World.rowIs.alloc r210_x3 (.cells (arrOf 16 (u64f fun _ => 0)) 47)
                  have r211_z3 := World.rowIs.alloc r210_z3 (.cells (arrOf 16 (u64f fun _ => 0)) 47)
                  have r211_t14 := World.rowIs.alloc r210_t14 (.cells (arrOf 16 (u64f fun _ => 0)) 47)
                  have r211_t15 := World.rowIs.alloc r210_t15 (.cells (arrOf 16 (u64f fun _ => 0)) 47)
                  have r211_t16 := World.rowIs.alloc r210_t16 (.cells (arrOf 16 (u64f fun _ => 0)) 47)
                  have B211 := B210.alloc (HGS.out _ B210) (.cells (arrOf 16 (u64f fun _ => 0)) 47)
                  have r211_t17 := rowIs_arr w210 16 (u64f fun _ => 0) 47
                  try simp only [World.size_alloc] at r211_t17
                  clear B210)
               | (have hgo := B221; clear hgo; refine (CDA.out _).mono ?_; rintro e w222 ⟨rfl, hb222⟩
                  have r222_k := World.rowIs.of_block r221_k (hb222.block _ (World.rowIs.lt r221_k))
                  have r222_u := World.rowIs.of_block r221_u (hb222.block _ (World.rowIs.lt r221_u))
                  have r222_x2 := World.rowIs.of_block r221_x2 (hb222.block _ (World.rowIs.lt r221_x2))
                  have r222_z2 := World.rowIs.of_block r221_z2 (hb222.block _ (World.rowIs.lt r221_z2))
                  have r222_x3 := World.rowIs.of_block r221_x3 (hb222.block _ (World.rowIs.lt r221_x3))
                  have r222_z3 := World.rowIs.of_block r221_z3 (hb222.block _ (World.rowIs.lt r221_z3))
                  have r222_t14 := World.rowIs.of_block r221_t14 (hb222.block _ (World.rowIs.lt r221_t14))
                  have r222_t15 := World.rowIs.of_block r221_t15 (hb222.block _ (World.rowIs.lt r221_t15))
                  have r222_t16 := World.rowIs.of_block r221_t16 (hb222.block _ (World.rowIs.lt r221_t16))
                  have r222_t17 := World.rowIs.of_block r221_t17 (hb222.block _ (World.rowIs.lt r221_t17))
                  have r222_t18 := World.rowIs.of_block r221_t18 (hb222.block _ (World.rowIs.lt r221_t18))
                  have r222_t19 := World.rowIs.of_block r221_t19 (hb222.block _ (World.rowIs.lt r221_t19))
                  have r222_t20 := World.rowIs.of_block r221_t20 (hb222.block _ (World.rowIs.lt r221_t20))
                  have B222 := B221.trans (hb222.mono (HGS.out _ B221))
                  clear r221_k r221_u r221_x2 r221_z2 r221_x3 r221_z3 r221_t14 r221_t15 r221_t16 r221_t17 r221_t18 r221_t19 r221_t20 B221 hb222
                  have lt223_k := World.rowIs.lt r222_k
                  try simp only [World.size_alloc] at lt223_k
                  have lt223_u := World.rowIs.lt r222_u
                  try simp only [World.size_alloc] at lt223_u
                  have lt223_x2 := World.rowIs.lt r222_x2
                  try simp only [World.size_alloc] at lt223_x2
                  have lt223_z2 := World.rowIs.lt r222_z2
                  try simp only [World.size_alloc] at lt223_z2
                  have lt223_x3 := World.rowIs.lt r222_x3
                  try simp only [World.size_alloc] at lt223_x3
                  have lt223_z3 := World.rowIs.lt r222_z3
                  try simp only [World.size_alloc] at lt223_z3
                  have lt223_t14 := World.rowIs.lt r222_t14
                  try simp only [World.size_alloc] at lt223_t14
                  have lt223_t15 := World.rowIs.lt r222_t15
                  try simp only [World.size_alloc] at lt223_t15
                  have lt223_t16 := World.rowIs.lt r222_t16
                  try simp only [World.size_alloc] at lt223_t16
                  have lt223_t17 := World.rowIs.lt r222_t17
                  try simp only [World.size_alloc] at lt223_t17
                  have lt223_t18 := World.rowIs.lt r222_t18
                  try simp only [World.size_alloc] at lt223_t18
                  have lt223_t19 := World.rowIs.lt r222_t19
                  try simp only [World.size_alloc] at lt223_t19
                  have lt223_t20 := World.rowIs.lt r222_t20
                  try simp only [World.size_alloc] at lt223_t20
                  have g223 := HGS.out _ B222
                  try simp only [World.size_alloc] at g223
                  have r223_k := World.rowIs.alloc r222_k (.cells (arrOf 16 (u64f fun _ => 0)) 47)
                  have r223_u := World.rowIs.alloc r222_u (.cells (arrOf 16 (u64f fun _ => 0)) 47)
                  have r223_x2 := World.rowIs.alloc r222_x2 (.cells (arrOf 16 (u64f fun _ => 0)) 47)
                  have r223_z2 := World.rowIs.alloc r222_z2 (.cells (arrOf 16 (u64f fun _ => 0)) 47)
                  have r223_x3 := World.rowIs.alloc r222_x3 (.cells (arrOf 16 (u64f fun _ => 0)) 47)
                  have r223_z3 := World.rowIs.alloc r222_z3 (.cells (arrOf 16 (u64f fun _ => 0)) 47)
                  have r223_t14 := World.rowIs.alloc r222_t14 (.cells (arrOf 16 (u64f fun _ => 0)) 47)
                  have r223_t15 := World.rowIs.alloc r222_t15 (.cells (arrOf 16 (u64f fun _ => 0)) 47)
                  have r223_t16 := World.rowIs.alloc r222_t16 (.cells (arrOf 16 (u64f fun _ => 0)) 47)
                  have r223_t17 := World.rowIs.alloc r222_t17 (.cells (arrOf 16 (u64f fun _ => 0)) 47)
                  have r223_t18 := World.rowIs.alloc r222_t18 (.cells (arrOf 16 (u64f fun _ => 0)) 47)
                  have r223_t19 := World.rowIs.alloc r222_t19 (.cells (arrOf 16 (u64f fun _ => 0)) 47)
                  have r223_t20 := World.rowIs.alloc r222_t20 (.cells (arrOf 16 (u64f fun _ => 0)) 47)
                  have B223 := B222.alloc (HGS.out _ B222) (.cells (arrOf 16 (u64f fun _ => 0)) 47)
                  have r223_t21 := rowIs_arr w222 16 (u64f fun _ => 0) 47
                  try simp only [World.size_alloc] at r223_t21
                  clear B222)
               | (have hgo := B224; clear hgo; refine (CCB.out _).mono ?_; rintro e w225 ⟨rfl, hb225⟩
                  have r225_k := World.rowIs.of_block r224_k (hb225.block _ (World.rowIs.lt r224_k))
                  have r225_u := World.rowIs.of_block r224_u (hb225.block _ (World.rowIs.lt r224_u))
                  have r225_x2 := World.rowIs.of_block r224_x2 (hb225.block _ (World.rowIs.lt r224_x2))
                  have r225_z2 := World.rowIs.of_block r224_z2 (hb225.block _ (World.rowIs.lt r224_z2))
                  have r225_x3 := World.rowIs.of_block r224_x3 (hb225.block _ (World.rowIs.lt r224_x3))
                  have r225_z3 := World.rowIs.of_block r224_z3 (hb225.block _ (World.rowIs.lt r224_z3))
                  have r225_t14 := World.rowIs.of_block r224_t14 (hb225.block _ (World.rowIs.lt r224_t14))
                  have r225_t15 := World.rowIs.of_block r224_t15 (hb225.block _ (World.rowIs.lt r224_t15))
                  have r225_t16 := World.rowIs.of_block r224_t16 (hb225.block _ (World.rowIs.lt r224_t16))
                  have r225_t17 := World.rowIs.of_block r224_t17 (hb225.block _ (World.rowIs.lt r224_t17))
                  have r225_t18 := World.rowIs.of_block r224_t18 (hb225.block _ (World.rowIs.lt r224_t18))
                  have r225_t19 := World.rowIs.of_block r224_t19 (hb225.block _ (World.rowIs.lt r224_t19))
                  have r225_t20 := World.rowIs.of_block r224_t20 (hb225.block _ (World.rowIs.lt r224_t20))
                  have r225_t21 := World.rowIs.of_block r224_t21 (hb225.block _ (World.rowIs.lt r224_t21))
                  have B225 := B224.trans (hb225.mono (HGS.out _ B224))
                  clear r224_k r224_u r224_x2 r224_z2 r224_x3 r224_z3 r224_t14 r224_t15 r224_t16 r224_t17 r224_t18 r224_t19 r224_t20 r224_t21 B224 hb225
                  have lt226_k := World.rowIs.lt r225_k
                  try simp only [World.size_alloc] at lt226_k
                  have lt226_u := World.rowIs.lt r225_u
                  try simp only [World.size_alloc] at lt226_u
                  have lt226_x2 := World.rowIs.lt r225_x2
                  try simp only [World.size_alloc] at lt226_x2
                  have lt226_z2 := World.rowIs.lt r225_z2
                  try simp only [World.size_alloc] at lt226_z2
                  have lt226_x3 := World.rowIs.lt r225_x3
                  try simp only [World.size_alloc] at lt226_x3
                  have lt226_z3 := World.rowIs.lt r225_z3
                  try simp only [World.size_alloc] at lt226_z3
                  have lt226_t14 := World.rowIs.lt r225_t14
                  try simp only [World.size_alloc] at lt226_t14
                  have lt226_t15 := World.rowIs.lt r225_t15
                  try simp only [World.size_alloc] at lt226_t15
                  have lt226_t16 := World.rowIs.lt r225_t16
                  try simp only [World.size_alloc] at lt226_t16
                  have lt226_t17 := World.rowIs.lt r225_t17
                  try simp only [World.size_alloc] at lt226_t17
                  have lt226_t18 := World.rowIs.lt r225_t18
                  try simp only [World.size_alloc] at lt226_t18
                  have lt226_t19 := World.rowIs.lt r225_t19
                  try simp only [World.size_alloc] at lt226_t19
                  have lt226_t20 := World.rowIs.lt r225_t20
                  try simp only [World.size_alloc] at lt226_t20
                  have lt226_t21 := World.rowIs.lt r225_t21
                  try simp only [World.size_alloc] at lt226_t21
                  have g226 := HGS.out _ B225
                  try simp only [World.size_alloc] at g226
                  have r226_k := World.rowIs.alloc r225_k (.cells (arrOf 16 (u64f fun _ => 0)) 47)
                  have r226_u := World.rowIs.alloc r225_u (.cells (arrOf 16 (u64f fun _ => 0)) 47)
                  have r226_x2 := World.rowIs.alloc r225_x2 (.cells (arrOf 16 (u64f fun _ => 0)) 47)
                  have r226_z2 := World.rowIs.alloc r225_z2 (.cells (arrOf 16 (u64f fun _ => 0)) 47)
                  have r226_x3 := World.rowIs.alloc r225_x3 (.cells (arrOf 16 (u64f fun _ => 0)) 47)
                  have r226_z3 := World.rowIs.alloc r225_z3 (.cells (arrOf 16 (u64f fun _ => 0)) 47)
                  have r226_t14 := World.rowIs.alloc r225_t14 (.cells (arrOf 16 (u64f fun _ => 0)) 47)
                  have r226_t15 := World.rowIs.alloc r225_t15 (.cells (arrOf 16 (u64f fun _ => 0)) 47)
                  have r226_t16 := World.rowIs.alloc r225_t16 (.cells (arrOf 16 (u64f fun _ => 0)) 47)
                  have r226_t17 := World.rowIs.alloc r225_t17 (.cells (arrOf 16 (u64f fun _ => 0)) 47)
                  have r226_t18 := World.rowIs.alloc r225_t18 (.cells (arrOf 16 (u64f fun _ => 0)) 47)
                  have r226_t19 := World.rowIs.alloc r225_t19 (.cells (arrOf 16 (u64f fun _ => 0)) 47)
                  have r226_t20 := World.rowIs.alloc r225_t20 (.cells (arrOf 16 (u64f fun _ => 0)) 47)
                  have r226_t21 := World.rowIs.alloc r225_t21 (.cells (arrOf 16 (u64f fun _ => 0)) 47)
                  have B226 := B225.alloc (HGS.out _ B225) (.cells (arrOf 16 (u64f fun _ => 0)) 47)
                  have r226_t22 := rowIs_arr w225 16 (u64f fun _ => 0) 47
                  try simp only [World.size_alloc] at r226_t22
                  clear B225)
               | (have hgo := B229; clear hgo; refine (CN3.out _).mono ?_; rintro e w230 ⟨rfl, hb230⟩
                  have r230_k := World.rowIs.of_block r229_k (hb230.block _ (World.rowIs.lt r229_k))
                  have r230_u := World.rowIs.of_block r229_u (hb230.block _ (World.rowIs.lt r229_u))
                  have r230_x2 := World.rowIs.of_block r229_x2 (hb230.block _ (World.rowIs.lt r229_x2))
                  have r230_z2 := World.rowIs.of_block r229_z2 (hb230.block _ (World.rowIs.lt r229_z2))
                  have r230_x3 := World.rowIs.of_block r229_x3 (hb230.block _ (World.rowIs.lt r229_x3))
                  have r230_z3 := World.rowIs.of_block r229_z3 (hb230.block _ (World.rowIs.lt r229_z3))
                  have r230_t14 := World.rowIs.of_block r229_t14 (hb230.block _ (World.rowIs.lt r229_t14))
                  have r230_t15 := World.rowIs.of_block r229_t15 (hb230.block _ (World.rowIs.lt r229_t15))
                  have r230_t16 := World.rowIs.of_block r229_t16 (hb230.block _ (World.rowIs.lt r229_t16))
                  have r230_t17 := World.rowIs.of_block r229_t17 (hb230.block _ (World.rowIs.lt r229_t17))
                  have r230_t18 := World.rowIs.of_block r229_t18 (hb230.block _ (World.rowIs.lt r229_t18))
                  have r230_t19 := World.rowIs.of_block r229_t19 (hb230.block _ (World.rowIs.lt r229_t19))
                  have r230_t20 := World.rowIs.of_block r229_t20 (hb230.block _ (World.rowIs.lt r229_t20))
                  have r230_t21 := World.rowIs.of_block r229_t21 (hb230.block _ (World.rowIs.lt r229_t21))
                  have r230_t22 := World.rowIs.of_block r229_t22 (hb230.block _ (World.rowIs.lt r229_t22))
                  have B230 := B229.trans (hb230.mono (HGS.out _ B229))
                  clear r229_k r229_u r229_x2 r229_z2 r229_x3 r229_z3 r229_t14 r229_t15 r229_t16 r229_t17 r229_t18 r229_t19 r229_t20 r229_t21 r229_t22 B229 hb230))
          | (refine wpList_store_arr rfl 47 (.tmp 15) (.tmp 58) rfl 16 arrFe r205_t15 rfl rfl (by omega) (fun _ _ => rfl) ?_; intro x206 hr206 hg206 hs206
             have r206_t15 : x206.rowIs (w204.heap.size) 47 16 (feF aa) := hr206.congr fun i hi => by unfold putN; rw [if_pos (by omega), Nat.sub_zero]
             have r206_k := gb_rowIs r205_k hg206 (Nat.ne_of_lt lt205_k)
             have r206_u := gb_rowIs r205_u hg206 (Nat.ne_of_lt lt205_u)
             have r206_x2 := gb_rowIs r205_x2 hg206 (Nat.ne_of_lt lt205_x2)
             have r206_z2 := gb_rowIs r205_z2 hg206 (Nat.ne_of_lt lt205_z2)
             have r206_x3 := gb_rowIs r205_x3 hg206 (Nat.ne_of_lt lt205_x3)
             have r206_z3 := gb_rowIs r205_z3 hg206 (Nat.ne_of_lt lt205_z3)
             have r206_t14 := gb_rowIs r205_t14 hg206 (Nat.ne_of_lt lt205_t14)
             have B206 := B205.grown hg206 (HGS.out _ B205) (by intro k hk; cases hk; exact g205)
             clear r205_t15 r205_k r205_u r205_x2 r205_z2 r205_x3 r205_z3 r205_t14 B205 hr206 hg206 hs206)
          | (refine wpList_load_arr rfl 47 (.tmp 7) rfl 16 arrFe r206_x2 rfl (by omega) ?_; simp only [Nat.zero_add])
          | (refine wpList_load_arr rfl 47 (.tmp 8) rfl 16 arrFe r206_z2 rfl (by omega) ?_; simp only [Nat.zero_add])
          | (go_at_call 28
             first
               | (have hgo := B206; clear hgo; refine (CB.out _).mono ?_; rintro e w207 ⟨rfl, hb207⟩
                  have r207_k := World.rowIs.of_block r206_k (hb207.block _ (World.rowIs.lt r206_k))
                  have r207_u := World.rowIs.of_block r206_u (hb207.block _ (World.rowIs.lt r206_u))
                  have r207_x2 := World.rowIs.of_block r206_x2 (hb207.block _ (World.rowIs.lt r206_x2))
                  have r207_z2 := World.rowIs.of_block r206_z2 (hb207.block _ (World.rowIs.lt r206_z2))
                  have r207_x3 := World.rowIs.of_block r206_x3 (hb207.block _ (World.rowIs.lt r206_x3))
                  have r207_z3 := World.rowIs.of_block r206_z3 (hb207.block _ (World.rowIs.lt r206_z3))
                  have r207_t14 := World.rowIs.of_block r206_t14 (hb207.block _ (World.rowIs.lt r206_t14))
                  have r207_t15 := World.rowIs.of_block r206_t15 (hb207.block _ (World.rowIs.lt r206_t15))
                  have B207 := B206.trans (hb207.mono (HGS.out _ B206))
                  clear r206_k r206_u r206_x2 r206_z2 r206_x3 r206_z3 r206_t14 r206_t15 B206 hb207
                  have lt208_k := World.rowIs.lt r207_k
                  try simp only [World.size_alloc] at lt208_k
                  have lt208_u := World.rowIs.lt r207_u
                  try simp only [World.size_alloc] at lt208_u
                  have lt208_x2 := World.rowIs.lt r207_x2
                  try simp only [World.size_alloc] at lt208_x2
                  have lt208_z2 := World.rowIs.lt r207_z2
                  try simp only [World.size_alloc] at lt208_z2
                  have lt208_x3 := World.rowIs.lt r207_x3
                  try simp only [World.size_alloc] at lt208_x3
                  have lt208_z3 := World.rowIs.lt r207_z3
                  try simp only [World.size_alloc] at lt208_z3
                  have lt208_t14 := World.rowIs.lt r207_t14
                  try simp only [World.size_alloc] at lt208_t14
                  have lt208_t15 := World.rowIs.lt r207_t15
                  try simp only [World.size_alloc] at lt208_t15
                  have g208 := HGS.out _ B207
                  try simp only [World.size_alloc] at g208
                  have r208_k := World.rowIs.alloc r207_k (.cells (arrOf 16 (u64f fun _ => 0)) 47)
                  have r208_u := World.rowIs.alloc r207_u (.cells (arrOf 16 (u64f fun _ => 0)) 47)
                  have r208_x2 := World.rowIs.alloc r207_x2 (.cells (arrOf 16 (u64f fun _ => 0)) 47)
                  have r208_z2 := World.rowIs.alloc r207_z2 (.cells (arrOf 16 (u64f fun _ => 0)) 47)
                  have r208_x3 := World.rowIs.alloc r207_x3 (.cells (arrOf 16 (u64f fun _ => 0)) 47)
                  have r208_z3 := World.rowIs.alloc r207_z3 (.cells (arrOf 16 (u64f fun _ => 0)) 47)
                  have r208_t14 := World.rowIs.alloc r207_t14 (.cells (arrOf 16 (u64f fun _ => 0)) 47)
                  have r208_t15 := World.rowIs.alloc r207_t15 (.cells (arrOf 16 (u64f fun _ => 0)) 47)
                  have B208 := B207.alloc (HGS.out _ B207) (.cells (arrOf 16 (u64f fun _ => 0)) 47)
                  have r208_t16 := rowIs_arr w207 16 (u64f fun _ => 0) 47
                  try simp only [World.size_alloc] at r208_t16
                  clear B207)
               | (have hgo := B212; clear hgo; refine (CE.out _).mono ?_; rintro e w213 ⟨rfl, hb213⟩
                  have r213_k := World.rowIs.of_block r212_k (hb213.block _ (World.rowIs.lt r212_k))
                  have r213_u := World.rowIs.of_block r212_u (hb213.block _ (World.rowIs.lt r212_u))
                  have r213_x2 := World.rowIs.of_block r212_x2 (hb213.block _ (World.rowIs.lt r212_x2))
                  have r213_z2 := World.rowIs.of_block r212_z2 (hb213.block _ (World.rowIs.lt r212_z2))
                  have r213_x3 := World.rowIs.of_block r212_x3 (hb213.block _ (World.rowIs.lt r212_x3))
                  have r213_z3 := World.rowIs.of_block r212_z3 (hb213.block _ (World.rowIs.lt r212_z3))
                  have r213_t14 := World.rowIs.of_block r212_t14 (hb213.block _ (World.rowIs.lt r212_t14))
                  have r213_t15 := World.rowIs.of_block r212_t15 (hb213.block _ (World.rowIs.lt r212_t15))
                  have r213_t16 := World.rowIs.of_block r212_t16 (hb213.block _ (World.rowIs.lt r212_t16))
                  have r213_t17 := World.rowIs.of_block r212_t17 (hb213.block _ (World.rowIs.lt r212_t17))
                  have B213 := B212.trans (hb213.mono (HGS.out _ B212))
                  clear r212_k r212_u r212_x2 r212_z2 r212_x3 r212_z3 r212_t14 r212_t15 r212_t16 r212_t17 B212 hb213
                  have lt214_k := World.rowIs.lt r213_k
                  try simp only [World.size_alloc] at lt214_k
                  have lt214_u := World.rowIs.lt r213_u
                  try simp only [World.size_alloc] at lt214_u
                  have lt214_x2 := World.rowIs.lt r213_x2
                  try simp only [World.size_alloc] at lt214_x2
                  have lt214_z2 := World.rowIs.lt r213_z2
                  try simp only [World.size_alloc] at lt214_z2
                  have lt214_x3 := World.rowIs.lt r213_x3
                  try simp only [World.size_alloc] at lt214_x3
                  have lt214_z3 := World.rowIs.lt r213_z3
                  try simp only [World.size_alloc] at lt214_z3
                  have lt214_t14 := World.rowIs.lt r213_t14
                  try simp only [World.size_alloc] at lt214_t14
                  have lt214_t15 := World.rowIs.lt r213_t15
                  try simp only [World.size_alloc] at lt214_t15
                  have lt214_t16 := World.rowIs.lt r213_t16
                  try simp only [World.size_alloc] at lt214_t16
                  have lt214_t17 := World.rowIs.lt r213_t17
                  try simp only [World.size_alloc] at lt214_t17
                  have g214 := HGS.out _ B213
                  try simp only [World.size_alloc] at g214
                  have r214_k := World.rowIs.alloc r213_k (.cells (arrOf 16 (u64f fun _ => 0)) 47)
                  have r214_u := World.rowIs.alloc r213_u (.cells (arrOf 16 (u64f fun _ => 0)) 47)
                  have r214_x2 := World.rowIs.alloc r213_x2 (.cells (arrOf 16 (u64f fun _ => 0)) 47)
                  have r214_z2 := World.rowIs.alloc r213_z2 (.cells (arrOf 16 (u64f fun _ => 0)) 47)
                  have r214_x3 := World.rowIs.alloc r213_x3 (.cells (arrOf 16 (u64f fun _ => 0)) 47)
                  have r214_z3 := World.rowIs.alloc r213_z3 (.cells (arrOf 16 (u64f fun _ => 0)) 47)
                  have r214_t14 := World.rowIs.alloc r213_t14 (.cells (arrOf 16 (u64f fun _ => 0)) 47)
                  have r214_t15 := World.rowIs.alloc r213_t15 (.cells (arrOf 16 (u64f fun _ => 0)) 47)
                  have r214_t16 := World.rowIs.alloc r213_t16 (.cells (arrOf 16 (u64f fun _ => 0)) 47)
                  have r214_t17 := World.rowIs.alloc r213_t17 (.cells (arrOf 16 (u64f fun _ => 0)) 47)
                  have B214 := B213.alloc (HGS.out _ B213) (.cells (arrOf 16 (u64f fun _ => 0)) 47)
                  have r214_t18 := rowIs_arr w213 16 (u64f fun _ => 0) 47
                  try simp only [World.size_alloc] at r214_t18
                  clear B213)
               | (have hgo := B218; clear hgo; refine (CD.out _).mono ?_; rintro e w219 ⟨rfl, hb219⟩
                  have r219_k := World.rowIs.of_block r218_k (hb219.block _ (World.rowIs.lt r218_k))
                  have r219_u := World.rowIs.of_block r218_u (hb219.block _ (World.rowIs.lt r218_u))
                  have r219_x2 := World.rowIs.of_block r218_x2 (hb219.block _ (World.rowIs.lt r218_x2))
                  have r219_z2 := World.rowIs.of_block r218_z2 (hb219.block _ (World.rowIs.lt r218_z2))
                  have r219_x3 := World.rowIs.of_block r218_x3 (hb219.block _ (World.rowIs.lt r218_x3))
                  have r219_z3 := World.rowIs.of_block r218_z3 (hb219.block _ (World.rowIs.lt r218_z3))
                  have r219_t14 := World.rowIs.of_block r218_t14 (hb219.block _ (World.rowIs.lt r218_t14))
                  have r219_t15 := World.rowIs.of_block r218_t15 (hb219.block _ (World.rowIs.lt r218_t15))
                  have r219_t16 := World.rowIs.of_block r218_t16 (hb219.block _ (World.rowIs.lt r218_t16))
                  have r219_t17 := World.rowIs.of_block r218_t17 (hb219.block _ (World.rowIs.lt r218_t17))
                  have r219_t18 := World.rowIs.of_block r218_t18 (hb219.block _ (World.rowIs.lt r218_t18))
                  have r219_t19 := World.rowIs.of_block r218_t19 (hb219.block _ (World.rowIs.lt r218_t19))
                  have B219 := B218.trans (hb219.mono (HGS.out _ B218))
                  clear r218_k r218_u r218_x2 r218_z2 r218_x3 r218_z3 r218_t14 r218_t15 r218_t16 r218_t17 r218_t18 r218_t19 B218 hb219
                  have lt220_k := World.rowIs.lt r219_k
                  try simp only [World.size_alloc] at lt220_k
                  have lt220_u := World.rowIs.lt r219_u
                  try simp only [World.size_alloc] at lt220_u
                  have lt220_x2 := World.rowIs.lt r219_x2
                  try simp only [World.size_alloc] at lt220_x2
                  have lt220_z2 := World.rowIs.lt r219_z2
                  try simp only [World.size_alloc] at lt220_z2
                  have lt220_x3 := World.rowIs.lt r219_x3
                  try simp only [World.size_alloc] at lt220_x3
                  have lt220_z3 := World.rowIs.lt r219_z3
                  try simp only [World.size_alloc] at lt220_z3
                  have lt220_t14 := World.rowIs.lt r219_t14
                  try simp only [World.size_alloc] at lt220_t14
                  have lt220_t15 := World.rowIs.lt r219_t15
                  try simp only [World.size_alloc] at lt220_t15
                  have lt220_t16 := World.rowIs.lt r219_t16
                  try simp only [World.size_alloc] at lt220_t16
                  have lt220_t17 := World.rowIs.lt r219_t17
                  try simp only [World.size_alloc] at lt220_t17
                  have lt220_t18 := World.rowIs.lt r219_t18
                  try simp only [World.size_alloc] at lt220_t18
                  have lt220_t19 := World.rowIs.lt r219_t19
                  try simp only [World.size_alloc] at lt220_t19
                  have g220 := HGS.out _ B219
                  try simp only [World.size_alloc] at g220
                  have r220_k := World.rowIs.alloc r219_k (.cells (arrOf 16 (u64f fun _ => 0)) 47)
                  have r220_u := World.rowIs.alloc r219_u (.cells (arrOf 16 (u64f fun _ => 0)) 47)
                  have r220_x2 := World.rowIs.alloc r219_x2 (.cells (arrOf 16 (u64f fun _ => 0)) 47)
                  have r220_z2 := World.rowIs.alloc r219_z2 (.cells (arrOf 16 (u64f fun _ => 0)) 47)
                  have r220_x3 := World.rowIs.alloc r219_x3 (.cells (arrOf 16 (u64f fun _ => 0)) 47)
                  have r220_z3 := World.rowIs.alloc r219_z3 (.cells (arrOf 16 (u64f fun _ => 0)) 47)
                  have r220_t14 := World.rowIs.alloc r219_t14 (.cells (arrOf 16 (u64f fun _ => 0)) 47)
                  have r220_t15 := World.rowIs.alloc r219_t15 (.cells (arrOf 16 (u64f fun _ => 0)) 47)
                  have r220_t16 := World.rowIs.alloc r219_t16 (.cells (arrOf 16 (u64f fun _ => 0)) 47)
                  have r220_t17 := World.rowIs.alloc r219_t17 (.cells (arrOf 16 (u64f fun _ => 0)) 47)
                  have r220_t18 := World.rowIs.alloc r219_t18 (.cells (arrOf 16 (u64f fun _ => 0)) 47)
                  have r220_t19 := World.rowIs.alloc r219_t19 (.cells (arrOf 16 (u64f fun _ => 0)) 47)
                  have B220 := B219.alloc (HGS.out _ B219) (.cells (arrOf 16 (u64f fun _ => 0)) 47)
                  have r220_t20 := rowIs_arr w219 16 (u64f fun _ => 0) 47
                  try simp only [World.size_alloc] at r220_t20
                  clear B219)
               | (have hgo := B231; clear hgo; refine (CQ.out _).mono ?_; rintro e w232 ⟨rfl, hb232⟩
                  have r232_k := World.rowIs.of_block r231_k (hb232.block _ (World.rowIs.lt r231_k))
                  have r232_u := World.rowIs.of_block r231_u (hb232.block _ (World.rowIs.lt r231_u))
                  have r232_x2 := World.rowIs.of_block r231_x2 (hb232.block _ (World.rowIs.lt r231_x2))
                  have r232_z2 := World.rowIs.of_block r231_z2 (hb232.block _ (World.rowIs.lt r231_z2))
                  have r232_x3 := World.rowIs.of_block r231_x3 (hb232.block _ (World.rowIs.lt r231_x3))
                  have r232_z3 := World.rowIs.of_block r231_z3 (hb232.block _ (World.rowIs.lt r231_z3))
                  have r232_t14 := World.rowIs.of_block r231_t14 (hb232.block _ (World.rowIs.lt r231_t14))
                  have r232_t15 := World.rowIs.of_block r231_t15 (hb232.block _ (World.rowIs.lt r231_t15))
                  have r232_t16 := World.rowIs.of_block r231_t16 (hb232.block _ (World.rowIs.lt r231_t16))
                  have r232_t17 := World.rowIs.of_block r231_t17 (hb232.block _ (World.rowIs.lt r231_t17))
                  have r232_t18 := World.rowIs.of_block r231_t18 (hb232.block _ (World.rowIs.lt r231_t18))
                  have r232_t19 := World.rowIs.of_block r231_t19 (hb232.block _ (World.rowIs.lt r231_t19))
                  have r232_t20 := World.rowIs.of_block r231_t20 (hb232.block _ (World.rowIs.lt r231_t20))
                  have r232_t21 := World.rowIs.of_block r231_t21 (hb232.block _ (World.rowIs.lt r231_t21))
                  have r232_t22 := World.rowIs.of_block r231_t22 (hb232.block _ (World.rowIs.lt r231_t22))
                  have B232 := B231.trans (hb232.mono (HGS.out _ B231))
                  clear r231_k r231_u r231_x2 r231_z2 r231_x3 r231_z3 r231_t14 r231_t15 r231_t16 r231_t17 r231_t18 r231_t19 r231_t20 r231_t21 r231_t22 B231 hb232))
          | (refine wpList_store_arr rfl 47 (.tmp 16) (.tmp 61) rfl 16 arrFe r208_t16 rfl rfl (by omega) (fun _ _ => rfl) ?_; intro x209 hr209 hg209 hs209
             have r209_t16 : x209.rowIs (w207.heap.size) 47 16 (feF b) := hr209.congr fun i hi => by unfold putN; rw [if_pos (by omega), Nat.sub_zero]
             have r209_k := gb_rowIs r208_k hg209 (Nat.ne_of_lt lt208_k)
             have r209_u := gb_rowIs r208_u hg209 (Nat.ne_of_lt lt208_u)
             have r209_x2 := gb_rowIs r208_x2 hg209 (Nat.ne_of_lt lt208_x2)
             have r209_z2 := gb_rowIs r208_z2 hg209 (Nat.ne_of_lt lt208_z2)
             have r209_x3 := gb_rowIs r208_x3 hg209 (Nat.ne_of_lt lt208_x3)
             have r209_z3 := gb_rowIs r208_z3 hg209 (Nat.ne_of_lt lt208_z3)
             have r209_t14 := gb_rowIs r208_t14 hg209 (Nat.ne_of_lt lt208_t14)
             have r209_t15 := gb_rowIs r208_t15 hg209 (Nat.ne_of_lt lt208_t15)
             have B209 := B208.grown hg209 (HGS.out _ B208) (by intro k hk; cases hk; exact g208)
             clear r208_t16 r208_k r208_u r208_x2 r208_z2 r208_x3 r208_z3 r208_t14 r208_t15 B208 hr209 hg209 hs209)
          | (refine wpList_load_arr rfl 47 (.tmp 16) rfl 16 arrFe r209_t16 rfl (by omega) ?_; simp only [Nat.zero_add])
          | (refine wpList_store_arr rfl 47 (.tmp 17) (.tmp 64) rfl 16 arrFe r211_t17 rfl rfl (by omega) (fun _ _ => rfl) ?_; intro x212 hr212 hg212 hs212
             have r212_t17 : x212.rowIs (w210.heap.size) 47 16 (feF bb) := hr212.congr fun i hi => by unfold putN; rw [if_pos (by omega), Nat.sub_zero]
             have r212_k := gb_rowIs r211_k hg212 (Nat.ne_of_lt lt211_k)
             have r212_u := gb_rowIs r211_u hg212 (Nat.ne_of_lt lt211_u)
             have r212_x2 := gb_rowIs r211_x2 hg212 (Nat.ne_of_lt lt211_x2)
             have r212_z2 := gb_rowIs r211_z2 hg212 (Nat.ne_of_lt lt211_z2)
             have r212_x3 := gb_rowIs r211_x3 hg212 (Nat.ne_of_lt lt211_x3)
             have r212_z3 := gb_rowIs r211_z3 hg212 (Nat.ne_of_lt lt211_z3)
             have r212_t14 := gb_rowIs r211_t14 hg212 (Nat.ne_of_lt lt211_t14)
             have r212_t15 := gb_rowIs r211_t15 hg212 (Nat.ne_of_lt lt211_t15)
             have r212_t16 := gb_rowIs r211_t16 hg212 (Nat.ne_of_lt lt211_t16)
             have B212 := B211.grown hg212 (HGS.out _ B211) (by intro k hk; cases hk; exact g211)
             clear r211_t17 r211_k r211_u r211_x2 r211_z2 r211_x3 r211_z3 r211_t14 r211_t15 r211_t16 B211 hr212 hg212 hs212)
          | (refine wpList_load_arr rfl 47 (.tmp 15) rfl 16 arrFe r212_t15 rfl (by omega) ?_; simp only [Nat.zero_add])
          | (refine wpList_load_arr rfl 47 (.tmp 17) rfl 16 arrFe r212_t17 rfl (by omega) ?_; simp only [Nat.zero_add])
          | (refine wpList_store_arr rfl 47 (.tmp 18) (.tmp 67) rfl 16 arrFe r214_t18 rfl rfl (by omega) (fun _ _ => rfl) ?_; intro x215 hr215 hg215 hs215
             have r215_t18 : x215.rowIs (w213.heap.size) 47 16 (feF e) := hr215.congr fun i hi => by unfold putN; rw [if_pos (by omega), Nat.sub_zero]
             have r215_k := gb_rowIs r214_k hg215 (Nat.ne_of_lt lt214_k)
             have r215_u := gb_rowIs r214_u hg215 (Nat.ne_of_lt lt214_u)
             have r215_x2 := gb_rowIs r214_x2 hg215 (Nat.ne_of_lt lt214_x2)
             have r215_z2 := gb_rowIs r214_z2 hg215 (Nat.ne_of_lt lt214_z2)
             have r215_x3 := gb_rowIs r214_x3 hg215 (Nat.ne_of_lt lt214_x3)
             have r215_z3 := gb_rowIs r214_z3 hg215 (Nat.ne_of_lt lt214_z3)
             have r215_t14 := gb_rowIs r214_t14 hg215 (Nat.ne_of_lt lt214_t14)
             have r215_t15 := gb_rowIs r214_t15 hg215 (Nat.ne_of_lt lt214_t15)
             have r215_t16 := gb_rowIs r214_t16 hg215 (Nat.ne_of_lt lt214_t16)
             have r215_t17 := gb_rowIs r214_t17 hg215 (Nat.ne_of_lt lt214_t17)
             have B215 := B214.grown hg215 (HGS.out _ B214) (by intro k hk; cases hk; exact g214)
             clear r214_t18 r214_k r214_u r214_x2 r214_z2 r214_x3 r214_z3 r214_t14 r214_t15 r214_t16 r214_t17 B214 hr215 hg215 hs215)
          | (refine wpList_load_arr rfl 47 (.tmp 9) rfl 16 arrFe r215_x3 rfl (by omega) ?_; simp only [Nat.zero_add])
          | (refine wpList_load_arr rfl 47 (.tmp 10) rfl 16 arrFe r215_z3 rfl (by omega) ?_; simp only [Nat.zero_add])
          | (refine wpList_store_arr rfl 47 (.tmp 19) (.tmp 70) rfl 16 arrFe r217_t19 rfl rfl (by omega) (fun _ _ => rfl) ?_; intro x218 hr218 hg218 hs218
             have r218_t19 : x218.rowIs (w216.heap.size) 47 16 (feF c) := hr218.congr fun i hi => by unfold putN; rw [if_pos (by omega), Nat.sub_zero]
             have r218_k := gb_rowIs r217_k hg218 (Nat.ne_of_lt lt217_k)
             have r218_u := gb_rowIs r217_u hg218 (Nat.ne_of_lt lt217_u)
             have r218_x2 := gb_rowIs r217_x2 hg218 (Nat.ne_of_lt lt217_x2)
             have r218_z2 := gb_rowIs r217_z2 hg218 (Nat.ne_of_lt lt217_z2)
             have r218_x3 := gb_rowIs r217_x3 hg218 (Nat.ne_of_lt lt217_x3)
             have r218_z3 := gb_rowIs r217_z3 hg218 (Nat.ne_of_lt lt217_z3)
             have r218_t14 := gb_rowIs r217_t14 hg218 (Nat.ne_of_lt lt217_t14)
             have r218_t15 := gb_rowIs r217_t15 hg218 (Nat.ne_of_lt lt217_t15)
             have r218_t16 := gb_rowIs r217_t16 hg218 (Nat.ne_of_lt lt217_t16)
             have r218_t17 := gb_rowIs r217_t17 hg218 (Nat.ne_of_lt lt217_t17)
             have r218_t18 := gb_rowIs r217_t18 hg218 (Nat.ne_of_lt lt217_t18)
             have B218 := B217.grown hg218 (HGS.out _ B217) (by intro k hk; cases hk; exact g217)
             clear r217_t19 r217_k r217_u r217_x2 r217_z2 r217_x3 r217_z3 r217_t14 r217_t15 r217_t16 r217_t17 r217_t18 B217 hr218 hg218 hs218)
          | (refine wpList_load_arr rfl 47 (.tmp 9) rfl 16 arrFe r218_x3 rfl (by omega) ?_; simp only [Nat.zero_add])
          | (refine wpList_load_arr rfl 47 (.tmp 10) rfl 16 arrFe r218_z3 rfl (by omega) ?_; simp only [Nat.zero_add])
          | (refine wpList_store_arr rfl 47 (.tmp 20) (.tmp 73) rfl 16 arrFe r220_t20 rfl rfl (by omega) (fun _ _ => rfl) ?_; intro x221 hr221 hg221 hs221
             have r221_t20 : x221.rowIs (w219.heap.size) 47 16 (feF d) := hr221.congr fun i hi => by unfold putN; rw [if_pos (by omega), Nat.sub_zero]
             have r221_k := gb_rowIs r220_k hg221 (Nat.ne_of_lt lt220_k)
             have r221_u := gb_rowIs r220_u hg221 (Nat.ne_of_lt lt220_u)
             have r221_x2 := gb_rowIs r220_x2 hg221 (Nat.ne_of_lt lt220_x2)
             have r221_z2 := gb_rowIs r220_z2 hg221 (Nat.ne_of_lt lt220_z2)
             have r221_x3 := gb_rowIs r220_x3 hg221 (Nat.ne_of_lt lt220_x3)
             have r221_z3 := gb_rowIs r220_z3 hg221 (Nat.ne_of_lt lt220_z3)
             have r221_t14 := gb_rowIs r220_t14 hg221 (Nat.ne_of_lt lt220_t14)
             have r221_t15 := gb_rowIs r220_t15 hg221 (Nat.ne_of_lt lt220_t15)
             have r221_t16 := gb_rowIs r220_t16 hg221 (Nat.ne_of_lt lt220_t16)
             have r221_t17 := gb_rowIs r220_t17 hg221 (Nat.ne_of_lt lt220_t17)
             have r221_t18 := gb_rowIs r220_t18 hg221 (Nat.ne_of_lt lt220_t18)
             have r221_t19 := gb_rowIs r220_t19 hg221 (Nat.ne_of_lt lt220_t19)
             have B221 := B220.grown hg221 (HGS.out _ B220) (by intro k hk; cases hk; exact g220)
             clear r220_t20 r220_k r220_u r220_x2 r220_z2 r220_x3 r220_z3 r220_t14 r220_t15 r220_t16 r220_t17 r220_t18 r220_t19 B220 hr221 hg221 hs221)
          | (refine wpList_load_arr rfl 47 (.tmp 20) rfl 16 arrFe r221_t20 rfl (by omega) ?_; simp only [Nat.zero_add])
          | (refine wpList_load_arr rfl 47 (.tmp 14) rfl 16 arrFe r221_t14 rfl (by omega) ?_; simp only [Nat.zero_add])
          | (refine wpList_store_arr rfl 47 (.tmp 21) (.tmp 76) rfl 16 arrFe r223_t21 rfl rfl (by omega) (fun _ _ => rfl) ?_; intro x224 hr224 hg224 hs224
             have r224_t21 : x224.rowIs (w222.heap.size) 47 16 (feF da) := hr224.congr fun i hi => by unfold putN; rw [if_pos (by omega), Nat.sub_zero]
             have r224_k := gb_rowIs r223_k hg224 (Nat.ne_of_lt lt223_k)
             have r224_u := gb_rowIs r223_u hg224 (Nat.ne_of_lt lt223_u)
             have r224_x2 := gb_rowIs r223_x2 hg224 (Nat.ne_of_lt lt223_x2)
             have r224_z2 := gb_rowIs r223_z2 hg224 (Nat.ne_of_lt lt223_z2)
             have r224_x3 := gb_rowIs r223_x3 hg224 (Nat.ne_of_lt lt223_x3)
             have r224_z3 := gb_rowIs r223_z3 hg224 (Nat.ne_of_lt lt223_z3)
             have r224_t14 := gb_rowIs r223_t14 hg224 (Nat.ne_of_lt lt223_t14)
             have r224_t15 := gb_rowIs r223_t15 hg224 (Nat.ne_of_lt lt223_t15)
             have r224_t16 := gb_rowIs r223_t16 hg224 (Nat.ne_of_lt lt223_t16)
             have r224_t17 := gb_rowIs r223_t17 hg224 (Nat.ne_of_lt lt223_t17)
             have r224_t18 := gb_rowIs r223_t18 hg224 (Nat.ne_of_lt lt223_t18)
             have r224_t19 := gb_rowIs r223_t19 hg224 (Nat.ne_of_lt lt223_t19)
             have r224_t20 := gb_rowIs r223_t20 hg224 (Nat.ne_of_lt lt223_t20)
             have B224 := B223.grown hg224 (HGS.out _ B223) (by intro k hk; cases hk; exact g223)
             clear r223_t21 r223_k r223_u r223_x2 r223_z2 r223_x3 r223_z3 r223_t14 r223_t15 r223_t16 r223_t17 r223_t18 r223_t19 r223_t20 B223 hr224 hg224 hs224)
          | (refine wpList_load_arr rfl 47 (.tmp 19) rfl 16 arrFe r224_t19 rfl (by omega) ?_; simp only [Nat.zero_add])
          | (refine wpList_load_arr rfl 47 (.tmp 16) rfl 16 arrFe r224_t16 rfl (by omega) ?_; simp only [Nat.zero_add])
          | (refine wpList_store_arr rfl 47 (.tmp 22) (.tmp 79) rfl 16 arrFe r226_t22 rfl rfl (by omega) (fun _ _ => rfl) ?_; intro x227 hr227 hg227 hs227
             have r227_t22 : x227.rowIs (w225.heap.size) 47 16 (feF cb) := hr227.congr fun i hi => by unfold putN; rw [if_pos (by omega), Nat.sub_zero]
             have r227_k := gb_rowIs r226_k hg227 (Nat.ne_of_lt lt226_k)
             have r227_u := gb_rowIs r226_u hg227 (Nat.ne_of_lt lt226_u)
             have r227_x2 := gb_rowIs r226_x2 hg227 (Nat.ne_of_lt lt226_x2)
             have r227_z2 := gb_rowIs r226_z2 hg227 (Nat.ne_of_lt lt226_z2)
             have r227_x3 := gb_rowIs r226_x3 hg227 (Nat.ne_of_lt lt226_x3)
             have r227_z3 := gb_rowIs r226_z3 hg227 (Nat.ne_of_lt lt226_z3)
             have r227_t14 := gb_rowIs r226_t14 hg227 (Nat.ne_of_lt lt226_t14)
             have r227_t15 := gb_rowIs r226_t15 hg227 (Nat.ne_of_lt lt226_t15)
             have r227_t16 := gb_rowIs r226_t16 hg227 (Nat.ne_of_lt lt226_t16)
             have r227_t17 := gb_rowIs r226_t17 hg227 (Nat.ne_of_lt lt226_t17)
             have r227_t18 := gb_rowIs r226_t18 hg227 (Nat.ne_of_lt lt226_t18)
             have r227_t19 := gb_rowIs r226_t19 hg227 (Nat.ne_of_lt lt226_t19)
             have r227_t20 := gb_rowIs r226_t20 hg227 (Nat.ne_of_lt lt226_t20)
             have r227_t21 := gb_rowIs r226_t21 hg227 (Nat.ne_of_lt lt226_t21)
             have B227 := B226.grown hg227 (HGS.out _ B226) (by intro k hk; cases hk; exact g226)
             clear r226_t22 r226_k r226_u r226_x2 r226_z2 r226_x3 r226_z3 r226_t14 r226_t15 r226_t16 r226_t17 r226_t18 r226_t19 r226_t20 r226_t21 B226 hr227 hg227 hs227)
          | (refine wpList_load_arr rfl 47 (.tmp 21) rfl 16 arrFe r227_t21 rfl (by omega) ?_; simp only [Nat.zero_add])
          | (refine wpList_load_arr rfl 47 (.tmp 22) rfl 16 arrFe r227_t22 rfl (by omega) ?_; simp only [Nat.zero_add])
          | (refine wpList_store_arr rfl 47 (.tmp 9) (.tmp 82) rfl 16 arrFe r228_x3 rfl rfl (by omega) (fun _ _ => rfl) ?_; intro x229 hr229 hg229 hs229
             have r229_x3 : x229.rowIs (g9) 47 16 (feF s) := hr229.congr fun i hi => by unfold putN; rw [if_pos (by omega), Nat.sub_zero]
             have r229_k := gb_rowIs r228_k hg229 n_k_x3
             have r229_u := gb_rowIs r228_u hg229 n_u_x3
             have r229_x2 := gb_rowIs r228_x2 hg229 n_x2_x3
             have r229_z2 := gb_rowIs r228_z2 hg229 n_z2_x3
             have r229_z3 := gb_rowIs r228_z3 hg229 (Ne.symm n_x3_z3)
             have r229_t14 := gb_rowIs r228_t14 hg229 (Ne.symm (Nat.ne_of_lt lt202_x3))
             have r229_t15 := gb_rowIs r228_t15 hg229 (Ne.symm (Nat.ne_of_lt lt205_x3))
             have r229_t16 := gb_rowIs r228_t16 hg229 (Ne.symm (Nat.ne_of_lt lt208_x3))
             have r229_t17 := gb_rowIs r228_t17 hg229 (Ne.symm (Nat.ne_of_lt lt211_x3))
             have r229_t18 := gb_rowIs r228_t18 hg229 (Ne.symm (Nat.ne_of_lt lt214_x3))
             have r229_t19 := gb_rowIs r228_t19 hg229 (Ne.symm (Nat.ne_of_lt lt217_x3))
             have r229_t20 := gb_rowIs r228_t20 hg229 (Ne.symm (Nat.ne_of_lt lt220_x3))
             have r229_t21 := gb_rowIs r228_t21 hg229 (Ne.symm (Nat.ne_of_lt lt223_x3))
             have r229_t22 := gb_rowIs r228_t22 hg229 (Ne.symm (Nat.ne_of_lt lt226_x3))
             have B229 := B228.grown hg229 (HGS.out _ B228) (by intro k hk; cases hk; exact l_x3)
             clear r228_x3 r228_k r228_u r228_x2 r228_z2 r228_z3 r228_t14 r228_t15 r228_t16 r228_t17 r228_t18 r228_t19 r228_t20 r228_t21 r228_t22 B228 hr229 hg229 hs229)
          | (refine wpList_load_arr rfl 47 (.tmp 9) rfl 16 arrFe r229_x3 rfl (by omega) ?_; simp only [Nat.zero_add])
          | (refine wpList_store_arr rfl 47 (.tmp 9) (.tmp 85) rfl 16 arrFe r230_x3 rfl rfl (by omega) (fun _ _ => rfl) ?_; intro x231 hr231 hg231 hs231
             have r231_x3 : x231.rowIs (g9) 47 16 (feF n3) := hr231.congr fun i hi => by unfold putN; rw [if_pos (by omega), Nat.sub_zero]
             have r231_k := gb_rowIs r230_k hg231 n_k_x3
             have r231_u := gb_rowIs r230_u hg231 n_u_x3
             have r231_x2 := gb_rowIs r230_x2 hg231 n_x2_x3
             have r231_z2 := gb_rowIs r230_z2 hg231 n_z2_x3
             have r231_z3 := gb_rowIs r230_z3 hg231 (Ne.symm n_x3_z3)
             have r231_t14 := gb_rowIs r230_t14 hg231 (Ne.symm (Nat.ne_of_lt lt202_x3))
             have r231_t15 := gb_rowIs r230_t15 hg231 (Ne.symm (Nat.ne_of_lt lt205_x3))
             have r231_t16 := gb_rowIs r230_t16 hg231 (Ne.symm (Nat.ne_of_lt lt208_x3))
             have r231_t17 := gb_rowIs r230_t17 hg231 (Ne.symm (Nat.ne_of_lt lt211_x3))
             have r231_t18 := gb_rowIs r230_t18 hg231 (Ne.symm (Nat.ne_of_lt lt214_x3))
             have r231_t19 := gb_rowIs r230_t19 hg231 (Ne.symm (Nat.ne_of_lt lt217_x3))
             have r231_t20 := gb_rowIs r230_t20 hg231 (Ne.symm (Nat.ne_of_lt lt220_x3))
             have r231_t21 := gb_rowIs r230_t21 hg231 (Ne.symm (Nat.ne_of_lt lt223_x3))
             have r231_t22 := gb_rowIs r230_t22 hg231 (Ne.symm (Nat.ne_of_lt lt226_x3))
             have B231 := B230.grown hg231 (HGS.out _ B230) (by intro k hk; cases hk; exact l_x3)
             clear r230_x3 r230_k r230_u r230_x2 r230_z2 r230_z3 r230_t14 r230_t15 r230_t16 r230_t17 r230_t18 r230_t19 r230_t20 r230_t21 r230_t22 B230 hr231 hg231 hs231)
          | (refine wpList_load_arr rfl 47 (.tmp 21) rfl 16 arrFe r231_t21 rfl (by omega) ?_; simp only [Nat.zero_add])
          | (refine wpList_load_arr rfl 47 (.tmp 22) rfl 16 arrFe r231_t22 rfl (by omega) ?_; simp only [Nat.zero_add])
          | (refine wpList_store_arr rfl 47 (.tmp 10) (.tmp 88) rfl 16 arrFe r232_z3 rfl rfl (by omega) (fun _ _ => rfl) ?_; intro x233 hr233 hg233 hs233
             have r233_z3 : x233.rowIs (g10) 47 16 (feF q) := hr233.congr fun i hi => by unfold putN; rw [if_pos (by omega), Nat.sub_zero]
             have r233_k := gb_rowIs r232_k hg233 n_k_z3
             have r233_u := gb_rowIs r232_u hg233 n_u_z3
             have r233_x2 := gb_rowIs r232_x2 hg233 n_x2_z3
             have r233_z2 := gb_rowIs r232_z2 hg233 n_z2_z3
             have r233_x3 := gb_rowIs r232_x3 hg233 n_x3_z3
             have r233_t14 := gb_rowIs r232_t14 hg233 (Ne.symm (Nat.ne_of_lt lt202_z3))
             have r233_t15 := gb_rowIs r232_t15 hg233 (Ne.symm (Nat.ne_of_lt lt205_z3))
             have r233_t16 := gb_rowIs r232_t16 hg233 (Ne.symm (Nat.ne_of_lt lt208_z3))
             have r233_t17 := gb_rowIs r232_t17 hg233 (Ne.symm (Nat.ne_of_lt lt211_z3))
             have r233_t18 := gb_rowIs r232_t18 hg233 (Ne.symm (Nat.ne_of_lt lt214_z3))
             have r233_t19 := gb_rowIs r232_t19 hg233 (Ne.symm (Nat.ne_of_lt lt217_z3))
             have r233_t20 := gb_rowIs r232_t20 hg233 (Ne.symm (Nat.ne_of_lt lt220_z3))
             have r233_t21 := gb_rowIs r232_t21 hg233 (Ne.symm (Nat.ne_of_lt lt223_z3))
             have r233_t22 := gb_rowIs r232_t22 hg233 (Ne.symm (Nat.ne_of_lt lt226_z3))
             have B233 := B232.grown hg233 (HGS.out _ B232) (by intro k hk; cases hk; exact l_z3)
             clear r232_z3 r232_k r232_u r232_x2 r232_z2 r232_x3 r232_t14 r232_t15 r232_t16 r232_t17 r232_t18 r232_t19 r232_t20 r232_t21 r232_t22 B232 hr233 hg233 hs233))
        have B := B233.drew
        have rk := World.rowIs.drew r233_k
        have ru := World.rowIs.drew r233_u
        have rx2 := World.rowIs.drew r233_x2
        have rz2 := World.rowIs.drew r233_z2
        have rx3 := World.rowIs.drew r233_x3
        have rz3 := World.rowIs.drew r233_z3
        have rt14 := World.rowIs.drew r233_t14
        have rt15 := World.rowIs.drew r233_t15
        have rt16 := World.rowIs.drew r233_t16
        have rt17 := World.rowIs.drew r233_t17
        have rt18 := World.rowIs.drew r233_t18
        have rt19 := World.rowIs.drew r233_t19
        have rt20 := World.rowIs.drew r233_t20
        have rt21 := World.rowIs.drew r233_t21
        have rt22 := World.rowIs.drew r233_t22
        clear B233 r233_k r233_u r233_x2 r233_z2 r233_x3 r233_z3 r233_t14 r233_t15 r233_t16 r233_t17 r233_t18 r233_t19 r233_t20 r233_t21 r233_t22
        refine wp_region_lins [(0, some [4, 5]), (1, some [3, 5]), (2, some [3, 5]), (3, none), (4, none), (5, none)] (fun c w' => c = 5 → w'.rowIs gu 47 16 (feF U) ∧ w'.rowIs g10 47 16 (feF q)) (by kernel_rfl) (by kernel_rfl) (by decide) (by kernel_rfl) (fun d _ _ _ _ h => by cases d <;> exact h) (fun c hc _ => ⟨ru, rz3⟩) ?_
        refine lins_read 89 (Op.load 47 (Operand.tmp 6)) 47 (.agg (arrOf 16 fun i => feF U (0 + i))) rfl rfl rfl rfl rfl (fun w0 hw0 => by exact exec_load_arr _ _ _ _ rfl arrFe ((hw0 5 (by simp) rfl).1) (by omega)) ?_
        simp only [Act.put, List.setIfInBounds_toArray, List.set_cons_zero, List.set_cons_succ, Nat.zero_add]
        refine lins_read 90 (Op.load 47 (Operand.tmp 10)) 47 (.agg (arrOf 16 fun i => feF q (0 + i))) rfl rfl rfl rfl rfl (fun w0 hw0 => by exact exec_load_arr _ _ _ _ rfl arrFe ((hw0 5 (by simp) rfl).2) (by omega)) ?_
        simp only [Act.put, List.setIfInBounds_toArray, List.set_cons_zero, List.set_cons_succ, Nat.zero_add]
        refine lins_read 91 (Op.load 47 (Operand.tmp 10)) 47 (.agg (arrOf 16 fun i => feF q (0 + i))) rfl rfl rfl rfl rfl (fun w0 hw0 => by exact exec_load_arr _ _ _ _ rfl arrFe ((hw0 5 (by simp) rfl).2) (by omega)) ?_
        simp only [Act.put, List.setIfInBounds_toArray, List.set_cons_zero, List.set_cons_succ, Nat.zero_add]
        refine lins_fn (some 92) 27 #[Operand.tmp 90, Operand.tmp 91] #[47, 47] _ (CQ2.out _) rfl rfl rfl rfl Try.func27 (by kernel_rfl) (by kernel_rfl) (by go_simp) ?_
        rintro e w92 ⟨rfl, b92⟩
        replace B := B.trans (b92.mono (HGS.out _ B))
        replace rk := World.rowIs.of_block rk (b92.block _ (World.rowIs.lt rk))
        replace ru := World.rowIs.of_block ru (b92.block _ (World.rowIs.lt ru))
        replace rx2 := World.rowIs.of_block rx2 (b92.block _ (World.rowIs.lt rx2))
        replace rz2 := World.rowIs.of_block rz2 (b92.block _ (World.rowIs.lt rz2))
        replace rx3 := World.rowIs.of_block rx3 (b92.block _ (World.rowIs.lt rx3))
        replace rz3 := World.rowIs.of_block rz3 (b92.block _ (World.rowIs.lt rz3))
        replace rt14 := World.rowIs.of_block rt14 (b92.block _ (World.rowIs.lt rt14))
        replace rt15 := World.rowIs.of_block rt15 (b92.block _ (World.rowIs.lt rt15))
        replace rt16 := World.rowIs.of_block rt16 (b92.block _ (World.rowIs.lt rt16))
        replace rt17 := World.rowIs.of_block rt17 (b92.block _ (World.rowIs.lt rt17))
        replace rt18 := World.rowIs.of_block rt18 (b92.block _ (World.rowIs.lt rt18))
        replace rt19 := World.rowIs.of_block rt19 (b92.block _ (World.rowIs.lt rt19))
        replace rt20 := World.rowIs.of_block rt20 (b92.block _ (World.rowIs.lt rt20))
        replace rt21 := World.rowIs.of_block rt21 (b92.block _ (World.rowIs.lt rt21))
        replace rt22 := World.rowIs.of_block rt22 (b92.block _ (World.rowIs.lt rt22))
        refine ⟨_, rfl, fun c w' => c = 5 → w'.rowIs gu 47 16 (feF U) ∧ w'.rowIs g10 47 16 (feF q), fun c hc => ⟨fun _ => ⟨ru, rz3⟩, fun w7 h => h⟩, ?_⟩
        simp only [Act.put, List.setIfInBounds_toArray, List.set_cons_zero, List.set_cons_succ, Nat.zero_add]
        refine lins_fn (some 93) 27 #[Operand.tmp 89, Operand.tmp 92] #[47, 47] _ (CM3.out _) rfl rfl rfl rfl Try.func27 (by kernel_rfl) (by kernel_rfl) (by go_simp) ?_
        rintro e w93 ⟨rfl, b93⟩
        replace B := B.trans (b93.mono (HGS.out _ B))
        replace rk := World.rowIs.of_block rk (b93.block _ (World.rowIs.lt rk))
        replace ru := World.rowIs.of_block ru (b93.block _ (World.rowIs.lt ru))
        replace rx2 := World.rowIs.of_block rx2 (b93.block _ (World.rowIs.lt rx2))
        replace rz2 := World.rowIs.of_block rz2 (b93.block _ (World.rowIs.lt rz2))
        replace rx3 := World.rowIs.of_block rx3 (b93.block _ (World.rowIs.lt rx3))
        replace rz3 := World.rowIs.of_block rz3 (b93.block _ (World.rowIs.lt rz3))
        replace rt14 := World.rowIs.of_block rt14 (b93.block _ (World.rowIs.lt rt14))
        replace rt15 := World.rowIs.of_block rt15 (b93.block _ (World.rowIs.lt rt15))
        replace rt16 := World.rowIs.of_block rt16 (b93.block _ (World.rowIs.lt rt16))
        replace rt17 := World.rowIs.of_block rt17 (b93.block _ (World.rowIs.lt rt17))
        replace rt18 := World.rowIs.of_block rt18 (b93.block _ (World.rowIs.lt rt18))
        replace rt19 := World.rowIs.of_block rt19 (b93.block _ (World.rowIs.lt rt19))
        replace rt20 := World.rowIs.of_block rt20 (b93.block _ (World.rowIs.lt rt20))
        replace rt21 := World.rowIs.of_block rt21 (b93.block _ (World.rowIs.lt rt21))
        replace rt22 := World.rowIs.of_block rt22 (b93.block _ (World.rowIs.lt rt22))
        refine ⟨_, rfl, fun c w' => c = 5 → w'.rowIs gu 47 16 (feF U) ∧ w'.rowIs g10 47 16 (feF q), fun c hc => ⟨fun _ => ⟨ru, rz3⟩, fun w7 h => h⟩, ?_⟩
        simp only [Act.put, List.setIfInBounds_toArray, List.set_cons_zero, List.set_cons_succ, Nat.zero_add]
        refine lins_store_arr (k := 16) (off := 0) 47 (.tmp 10) (.tmp 93) rfl rfl rfl rfl rz3 rfl rfl arrFe (by omega) (fun _ _ => rfl) ?_
        intro x94 hr94 hg94 hs94
        replace rz3 : x94.rowIs g10 47 16 (feF m3) := hr94.congr fun i hi => by unfold putN; rw [if_pos (by omega), Nat.sub_zero]
        replace rk := gb_rowIs rk hg94 n_k_z3
        replace ru := gb_rowIs ru hg94 n_u_z3
        replace rx2 := gb_rowIs rx2 hg94 n_x2_z3
        replace rz2 := gb_rowIs rz2 hg94 n_z2_z3
        replace rx3 := gb_rowIs rx3 hg94 n_x3_z3
        replace rt14 := gb_rowIs rt14 hg94 (Ne.symm (Nat.ne_of_lt lt202_z3))
        replace rt15 := gb_rowIs rt15 hg94 (Ne.symm (Nat.ne_of_lt lt205_z3))
        replace rt16 := gb_rowIs rt16 hg94 (Ne.symm (Nat.ne_of_lt lt208_z3))
        replace rt17 := gb_rowIs rt17 hg94 (Ne.symm (Nat.ne_of_lt lt211_z3))
        replace rt18 := gb_rowIs rt18 hg94 (Ne.symm (Nat.ne_of_lt lt214_z3))
        replace rt19 := gb_rowIs rt19 hg94 (Ne.symm (Nat.ne_of_lt lt217_z3))
        replace rt20 := gb_rowIs rt20 hg94 (Ne.symm (Nat.ne_of_lt lt220_z3))
        replace rt21 := gb_rowIs rt21 hg94 (Ne.symm (Nat.ne_of_lt lt223_z3))
        replace rt22 := gb_rowIs rt22 hg94 (Ne.symm (Nat.ne_of_lt lt226_z3))
        replace B := B.grown hg94 (HGS.out _ B) (by intro k hk; cases hk; exact l_z3)
        clear hr94 hg94 hs94
        refine ⟨fun _ _ => True, fun c hc => (by cases hc), ?_⟩
        try simp only [Act.put, List.setIfInBounds_toArray, List.set_cons_zero, List.set_cons_succ, Nat.zero_add]
        refine lins_end ?_
        go_wp2_with (first
          | (refine wpList_load_arr rfl 47 (.tmp 15) rfl 16 arrFe rt15 rfl (by omega) ?_; simp only [Nat.zero_add])
          | (refine wpList_load_arr rfl 47 (.tmp 17) rfl 16 arrFe rt17 rfl (by omega) ?_; simp only [Nat.zero_add])
          | (go_at_call 27; have hgo := B; clear hgo; refine (CN2.out _).mono ?_; rintro e w301 ⟨rfl, hb301⟩
             have r301_k := World.rowIs.of_block rk (hb301.block _ (World.rowIs.lt rk))
             have r301_u := World.rowIs.of_block ru (hb301.block _ (World.rowIs.lt ru))
             have r301_x2 := World.rowIs.of_block rx2 (hb301.block _ (World.rowIs.lt rx2))
             have r301_z2 := World.rowIs.of_block rz2 (hb301.block _ (World.rowIs.lt rz2))
             have r301_x3 := World.rowIs.of_block rx3 (hb301.block _ (World.rowIs.lt rx3))
             have r301_z3 := World.rowIs.of_block rz3 (hb301.block _ (World.rowIs.lt rz3))
             have r301_t14 := World.rowIs.of_block rt14 (hb301.block _ (World.rowIs.lt rt14))
             have r301_t15 := World.rowIs.of_block rt15 (hb301.block _ (World.rowIs.lt rt15))
             have r301_t16 := World.rowIs.of_block rt16 (hb301.block _ (World.rowIs.lt rt16))
             have r301_t17 := World.rowIs.of_block rt17 (hb301.block _ (World.rowIs.lt rt17))
             have r301_t18 := World.rowIs.of_block rt18 (hb301.block _ (World.rowIs.lt rt18))
             have r301_t19 := World.rowIs.of_block rt19 (hb301.block _ (World.rowIs.lt rt19))
             have r301_t20 := World.rowIs.of_block rt20 (hb301.block _ (World.rowIs.lt rt20))
             have r301_t21 := World.rowIs.of_block rt21 (hb301.block _ (World.rowIs.lt rt21))
             have r301_t22 := World.rowIs.of_block rt22 (hb301.block _ (World.rowIs.lt rt22))
             have B301 := B.trans (hb301.mono (HGS.out _ B))
             clear rk ru rx2 rz2 rx3 rz3 rt14 rt15 rt16 rt17 rt18 rt19 rt20 rt21 rt22 B hb301)
          | (refine wpList_store_arr rfl 47 (.tmp 7) (.tmp 96) rfl 16 arrFe r301_x2 rfl rfl (by omega) (fun _ _ => rfl) ?_; intro x302 hr302 hg302 hs302
             have r302_x2 : x302.rowIs (g7) 47 16 (feF n2) := hr302.congr fun i hi => by unfold putN; rw [if_pos (by omega), Nat.sub_zero]
             have r302_k := gb_rowIs r301_k hg302 n_k_x2
             have r302_u := gb_rowIs r301_u hg302 n_u_x2
             have r302_z2 := gb_rowIs r301_z2 hg302 (Ne.symm n_x2_z2)
             have r302_x3 := gb_rowIs r301_x3 hg302 (Ne.symm n_x2_x3)
             have r302_z3 := gb_rowIs r301_z3 hg302 (Ne.symm n_x2_z3)
             have r302_t14 := gb_rowIs r301_t14 hg302 (Ne.symm (Nat.ne_of_lt lt202_x2))
             have r302_t15 := gb_rowIs r301_t15 hg302 (Ne.symm (Nat.ne_of_lt lt205_x2))
             have r302_t16 := gb_rowIs r301_t16 hg302 (Ne.symm (Nat.ne_of_lt lt208_x2))
             have r302_t17 := gb_rowIs r301_t17 hg302 (Ne.symm (Nat.ne_of_lt lt211_x2))
             have r302_t18 := gb_rowIs r301_t18 hg302 (Ne.symm (Nat.ne_of_lt lt214_x2))
             have r302_t19 := gb_rowIs r301_t19 hg302 (Ne.symm (Nat.ne_of_lt lt217_x2))
             have r302_t20 := gb_rowIs r301_t20 hg302 (Ne.symm (Nat.ne_of_lt lt220_x2))
             have r302_t21 := gb_rowIs r301_t21 hg302 (Ne.symm (Nat.ne_of_lt lt223_x2))
             have r302_t22 := gb_rowIs r301_t22 hg302 (Ne.symm (Nat.ne_of_lt lt226_x2))
             have B302 := B301.grown hg302 (HGS.out _ B301) (by intro k hk; cases hk; exact l_x2)
             clear r301_x2 r301_k r301_u r301_z2 r301_x3 r301_z3 r301_t14 r301_t15 r301_t16 r301_t17 r301_t18 r301_t19 r301_t20 r301_t21 r301_t22 B301 hr302 hg302 hs302))
        have B := B302.drew
        have rk := World.rowIs.drew r302_k
        have ru := World.rowIs.drew r302_u
        have rx2 := World.rowIs.drew r302_x2
        have rz2 := World.rowIs.drew r302_z2
        have rx3 := World.rowIs.drew r302_x3
        have rz3 := World.rowIs.drew r302_z3
        have rt14 := World.rowIs.drew r302_t14
        have rt15 := World.rowIs.drew r302_t15
        have rt16 := World.rowIs.drew r302_t16
        have rt17 := World.rowIs.drew r302_t17
        have rt18 := World.rowIs.drew r302_t18
        have rt19 := World.rowIs.drew r302_t19
        have rt20 := World.rowIs.drew r302_t20
        have rt21 := World.rowIs.drew r302_t21
        have rt22 := World.rowIs.drew r302_t22
        clear B302 r302_k r302_u r302_x2 r302_z2 r302_x3 r302_z3 r302_t14 r302_t15 r302_t16 r302_t17 r302_t18 r302_t19 r302_t20 r302_t21 r302_t22
        refine wp_region_lins [(0, some [6, 7]), (1, some [5, 7]), (3, some [4, 7]), (2, none), (4, none), (5, none), (6, none), (7, none)] (fun c w' => c = 7 → w'.rowIs (w213.heap.size) 47 16 (feF e) ∧ w'.rowIs (w204.heap.size) 47 16 (feF aa)) (by kernel_rfl) (by kernel_rfl) (by decide) (by kernel_rfl) (fun d _ _ _ _ h => by cases d <;> exact h) (fun c hc _ => ⟨rt18, rt15⟩) ?_
        refine lins_read 97 (Op.load 47 (Operand.tmp 18)) 47 (.agg (arrOf 16 fun i => feF e (0 + i))) rfl rfl rfl rfl rfl (fun w0 hw0 => by exact exec_load_arr _ _ _ _ rfl arrFe ((hw0 7 (by simp) rfl).1) (by omega)) ?_
        simp only [Act.put, List.setIfInBounds_toArray, List.set_cons_zero, List.set_cons_succ, Nat.zero_add]
        refine lins_read 98 (Op.load 47 (Operand.tmp 15)) 47 (.agg (arrOf 16 fun i => feF aa (0 + i))) rfl rfl rfl rfl rfl (fun w0 hw0 => by exact exec_load_arr _ _ _ _ rfl arrFe ((hw0 7 (by simp) rfl).2) (by omega)) ?_
        simp only [Act.put, List.setIfInBounds_toArray, List.set_cons_zero, List.set_cons_succ, Nat.zero_add]
        refine lins_read 100 (Op.load 47 (Operand.tmp 18)) 47 (.agg (arrOf 16 fun i => feF e (0 + i))) rfl rfl rfl rfl rfl (fun w0 hw0 => by exact exec_load_arr _ _ _ _ rfl arrFe ((hw0 7 (by simp) rfl).1) (by omega)) ?_
        simp only [Act.put, List.setIfInBounds_toArray, List.set_cons_zero, List.set_cons_succ, Nat.zero_add]
        refine lins_fn (some 99) 25 #[Operand.const (Value.int IntKind.u64 121665)] #[39] _ (refSmall_any 121665 _ (by decide)) rfl rfl rfl rfl Try.func25 (by kernel_rfl) (by kernel_rfl) (by go_simp) ?_
        rintro e w99 ⟨rfl, b99⟩
        replace B := B.trans (b99.mono (HGS.out _ B))
        replace rk := World.rowIs.of_block rk (b99.block _ (World.rowIs.lt rk))
        replace ru := World.rowIs.of_block ru (b99.block _ (World.rowIs.lt ru))
        replace rx2 := World.rowIs.of_block rx2 (b99.block _ (World.rowIs.lt rx2))
        replace rz2 := World.rowIs.of_block rz2 (b99.block _ (World.rowIs.lt rz2))
        replace rx3 := World.rowIs.of_block rx3 (b99.block _ (World.rowIs.lt rx3))
        replace rz3 := World.rowIs.of_block rz3 (b99.block _ (World.rowIs.lt rz3))
        replace rt14 := World.rowIs.of_block rt14 (b99.block _ (World.rowIs.lt rt14))
        replace rt15 := World.rowIs.of_block rt15 (b99.block _ (World.rowIs.lt rt15))
        replace rt16 := World.rowIs.of_block rt16 (b99.block _ (World.rowIs.lt rt16))
        replace rt17 := World.rowIs.of_block rt17 (b99.block _ (World.rowIs.lt rt17))
        replace rt18 := World.rowIs.of_block rt18 (b99.block _ (World.rowIs.lt rt18))
        replace rt19 := World.rowIs.of_block rt19 (b99.block _ (World.rowIs.lt rt19))
        replace rt20 := World.rowIs.of_block rt20 (b99.block _ (World.rowIs.lt rt20))
        replace rt21 := World.rowIs.of_block rt21 (b99.block _ (World.rowIs.lt rt21))
        replace rt22 := World.rowIs.of_block rt22 (b99.block _ (World.rowIs.lt rt22))
        refine ⟨_, rfl, fun c w' => c = 7 → w'.rowIs (w213.heap.size) 47 16 (feF e) ∧ w'.rowIs (w204.heap.size) 47 16 (feF aa), fun c hc => ⟨fun _ => ⟨rt18, rt15⟩, fun w7 h => h⟩, ?_⟩
        simp only [Act.put, List.setIfInBounds_toArray, List.set_cons_zero, List.set_cons_succ, Nat.zero_add]
        refine lins_fn (some 101) 27 #[Operand.tmp 99, Operand.tmp 100] #[47, 47] _ (CF.out _) rfl rfl rfl rfl Try.func27 (by kernel_rfl) (by kernel_rfl) (by go_simp) ?_
        rintro e w101 ⟨rfl, b101⟩
        replace B := B.trans (b101.mono (HGS.out _ B))
        replace rk := World.rowIs.of_block rk (b101.block _ (World.rowIs.lt rk))
        replace ru := World.rowIs.of_block ru (b101.block _ (World.rowIs.lt ru))
        replace rx2 := World.rowIs.of_block rx2 (b101.block _ (World.rowIs.lt rx2))
        replace rz2 := World.rowIs.of_block rz2 (b101.block _ (World.rowIs.lt rz2))
        replace rx3 := World.rowIs.of_block rx3 (b101.block _ (World.rowIs.lt rx3))
        replace rz3 := World.rowIs.of_block rz3 (b101.block _ (World.rowIs.lt rz3))
        replace rt14 := World.rowIs.of_block rt14 (b101.block _ (World.rowIs.lt rt14))
        replace rt15 := World.rowIs.of_block rt15 (b101.block _ (World.rowIs.lt rt15))
        replace rt16 := World.rowIs.of_block rt16 (b101.block _ (World.rowIs.lt rt16))
        replace rt17 := World.rowIs.of_block rt17 (b101.block _ (World.rowIs.lt rt17))
        replace rt18 := World.rowIs.of_block rt18 (b101.block _ (World.rowIs.lt rt18))
        replace rt19 := World.rowIs.of_block rt19 (b101.block _ (World.rowIs.lt rt19))
        replace rt20 := World.rowIs.of_block rt20 (b101.block _ (World.rowIs.lt rt20))
        replace rt21 := World.rowIs.of_block rt21 (b101.block _ (World.rowIs.lt rt21))
        replace rt22 := World.rowIs.of_block rt22 (b101.block _ (World.rowIs.lt rt22))
        refine ⟨_, rfl, fun c w' => c = 7 → w'.rowIs (w213.heap.size) 47 16 (feF e) ∧ w'.rowIs (w204.heap.size) 47 16 (feF aa), fun c hc => ⟨fun _ => ⟨rt18, rt15⟩, fun w7 h => h⟩, ?_⟩
        simp only [Act.put, List.setIfInBounds_toArray, List.set_cons_zero, List.set_cons_succ, Nat.zero_add]
        refine lins_fn (some 102) 26 #[Operand.tmp 98, Operand.tmp 101] #[47, 47] _ (CH.out _) rfl rfl rfl rfl Try.func26 (by kernel_rfl) (by kernel_rfl) (by go_simp) ?_
        rintro e w102 ⟨rfl, b102⟩
        replace B := B.trans (b102.mono (HGS.out _ B))
        replace rk := World.rowIs.of_block rk (b102.block _ (World.rowIs.lt rk))
        replace ru := World.rowIs.of_block ru (b102.block _ (World.rowIs.lt ru))
        replace rx2 := World.rowIs.of_block rx2 (b102.block _ (World.rowIs.lt rx2))
        replace rz2 := World.rowIs.of_block rz2 (b102.block _ (World.rowIs.lt rz2))
        replace rx3 := World.rowIs.of_block rx3 (b102.block _ (World.rowIs.lt rx3))
        replace rz3 := World.rowIs.of_block rz3 (b102.block _ (World.rowIs.lt rz3))
        replace rt14 := World.rowIs.of_block rt14 (b102.block _ (World.rowIs.lt rt14))
        replace rt15 := World.rowIs.of_block rt15 (b102.block _ (World.rowIs.lt rt15))
        replace rt16 := World.rowIs.of_block rt16 (b102.block _ (World.rowIs.lt rt16))
        replace rt17 := World.rowIs.of_block rt17 (b102.block _ (World.rowIs.lt rt17))
        replace rt18 := World.rowIs.of_block rt18 (b102.block _ (World.rowIs.lt rt18))
        replace rt19 := World.rowIs.of_block rt19 (b102.block _ (World.rowIs.lt rt19))
        replace rt20 := World.rowIs.of_block rt20 (b102.block _ (World.rowIs.lt rt20))
        replace rt21 := World.rowIs.of_block rt21 (b102.block _ (World.rowIs.lt rt21))
        replace rt22 := World.rowIs.of_block rt22 (b102.block _ (World.rowIs.lt rt22))
        refine ⟨_, rfl, fun c w' => c = 7 → w'.rowIs (w213.heap.size) 47 16 (feF e) ∧ w'.rowIs (w204.heap.size) 47 16 (feF aa), fun c hc => ⟨fun _ => ⟨rt18, rt15⟩, fun w7 h => h⟩, ?_⟩
        simp only [Act.put, List.setIfInBounds_toArray, List.set_cons_zero, List.set_cons_succ, Nat.zero_add]
        refine lins_fn (some 103) 27 #[Operand.tmp 97, Operand.tmp 102] #[47, 47] _ (CM2.out _) rfl rfl rfl rfl Try.func27 (by kernel_rfl) (by kernel_rfl) (by go_simp) ?_
        rintro e w103 ⟨rfl, b103⟩
        replace B := B.trans (b103.mono (HGS.out _ B))
        replace rk := World.rowIs.of_block rk (b103.block _ (World.rowIs.lt rk))
        replace ru := World.rowIs.of_block ru (b103.block _ (World.rowIs.lt ru))
        replace rx2 := World.rowIs.of_block rx2 (b103.block _ (World.rowIs.lt rx2))
        replace rz2 := World.rowIs.of_block rz2 (b103.block _ (World.rowIs.lt rz2))
        replace rx3 := World.rowIs.of_block rx3 (b103.block _ (World.rowIs.lt rx3))
        replace rz3 := World.rowIs.of_block rz3 (b103.block _ (World.rowIs.lt rz3))
        replace rt14 := World.rowIs.of_block rt14 (b103.block _ (World.rowIs.lt rt14))
        replace rt15 := World.rowIs.of_block rt15 (b103.block _ (World.rowIs.lt rt15))
        replace rt16 := World.rowIs.of_block rt16 (b103.block _ (World.rowIs.lt rt16))
        replace rt17 := World.rowIs.of_block rt17 (b103.block _ (World.rowIs.lt rt17))
        replace rt18 := World.rowIs.of_block rt18 (b103.block _ (World.rowIs.lt rt18))
        replace rt19 := World.rowIs.of_block rt19 (b103.block _ (World.rowIs.lt rt19))
        replace rt20 := World.rowIs.of_block rt20 (b103.block _ (World.rowIs.lt rt20))
        replace rt21 := World.rowIs.of_block rt21 (b103.block _ (World.rowIs.lt rt21))
        replace rt22 := World.rowIs.of_block rt22 (b103.block _ (World.rowIs.lt rt22))
        refine ⟨_, rfl, fun c w' => c = 7 → w'.rowIs (w213.heap.size) 47 16 (feF e) ∧ w'.rowIs (w204.heap.size) 47 16 (feF aa), fun c hc => ⟨fun _ => ⟨rt18, rt15⟩, fun w7 h => h⟩, ?_⟩
        simp only [Act.put, List.setIfInBounds_toArray, List.set_cons_zero, List.set_cons_succ, Nat.zero_add]
        refine lins_store_arr (k := 16) (off := 0) 47 (.tmp 8) (.tmp 103) rfl rfl rfl rfl rz2 rfl rfl arrFe (by omega) (fun _ _ => rfl) ?_
        intro x104 hr104 hg104 hs104
        replace rz2 : x104.rowIs g8 47 16 (feF m2) := hr104.congr fun i hi => by unfold putN; rw [if_pos (by omega), Nat.sub_zero]
        replace rk := gb_rowIs rk hg104 n_k_z2
        replace ru := gb_rowIs ru hg104 n_u_z2
        replace rx2 := gb_rowIs rx2 hg104 n_x2_z2
        replace rx3 := gb_rowIs rx3 hg104 (Ne.symm n_z2_x3)
        replace rz3 := gb_rowIs rz3 hg104 (Ne.symm n_z2_z3)
        replace rt14 := gb_rowIs rt14 hg104 (Ne.symm (Nat.ne_of_lt lt202_z2))
        replace rt15 := gb_rowIs rt15 hg104 (Ne.symm (Nat.ne_of_lt lt205_z2))
        replace rt16 := gb_rowIs rt16 hg104 (Ne.symm (Nat.ne_of_lt lt208_z2))
        replace rt17 := gb_rowIs rt17 hg104 (Ne.symm (Nat.ne_of_lt lt211_z2))
        replace rt18 := gb_rowIs rt18 hg104 (Ne.symm (Nat.ne_of_lt lt214_z2))
        replace rt19 := gb_rowIs rt19 hg104 (Ne.symm (Nat.ne_of_lt lt217_z2))
        replace rt20 := gb_rowIs rt20 hg104 (Ne.symm (Nat.ne_of_lt lt220_z2))
        replace rt21 := gb_rowIs rt21 hg104 (Ne.symm (Nat.ne_of_lt lt223_z2))
        replace rt22 := gb_rowIs rt22 hg104 (Ne.symm (Nat.ne_of_lt lt226_z2))
        replace B := B.grown hg104 (HGS.out _ B) (by intro k hk; cases hk; exact l_z2)
        clear hr104 hg104 hs104
        refine ⟨fun _ _ => True, fun c hc => (by cases hc), ?_⟩
        try simp only [Act.put, List.setIfInBounds_toArray, List.set_cons_zero, List.set_cons_succ, Nat.zero_add]
        refine lins_end ?_
        go_wp2
        go_roundw
        case rel =>
          refine ⟨i + 1, _, by omega, ladS_next U K i, ?_⟩
          rw [ladS_next, ← HS.out, HBI.out]
          unfold ladStep
          dsimp only
          rw [if_pos rfl, if_pos rfl]
          dsimp only
          rw [← en2.out, ← em2.out, ← en3.out, ← em3.out]
          exact ⟨rfl, by rw [HTI.out]; go_num, rx2, rz2, rx3, rz3, ru, rk, B⟩
        case measure => (simp [intOf]; try omega)
      · have hsI : ¬ (sb : Int) = (bt : Int) := by omega
        obtain ⟨a, aa, b, bb, e, c, d, da, cb, s, n3, q, q2, m3, n2, f, h, m2, ⟨hCA, hCAA, hCB, hCBB, hCE, hCC, hCD, hCDA, hCCB, hCS, hCN3, hCQ, hCQ2, hCM3, hCN2, hCF, hCH, hCM2⟩, en2, em2, en3, em3⟩ := x_calls p3 p4 p1 p2 U hlp3 hlp4 hlp1 hlp2 HU.out
        unfold CallB at hCA hCAA hCB hCBB hCE hCC hCD hCDA hCCB hCS hCN3 hCQ hCQ2 hCM3 hCN2 hCF hCH hCM2
        have CA := Lib.hid hCA
        have CAA := Lib.hid hCAA
        have CB := Lib.hid hCB
        have CBB := Lib.hid hCBB
        have CE := Lib.hid hCE
        have CC := Lib.hid hCC
        have CD := Lib.hid hCD
        have CDA := Lib.hid hCDA
        have CCB := Lib.hid hCCB
        have CS := Lib.hid hCS
        have CN3 := Lib.hid hCN3
        have CQ := Lib.hid hCQ
        have CQ2 := Lib.hid hCQ2
        have CM3 := Lib.hid hCM3
        have CN2 := Lib.hid hCN2
        have CF := Lib.hid hCF
        have CH := Lib.hid hCH
        have CM2 := Lib.hid hCM2
        replace en2 := Lib.hid en2
        replace em2 := Lib.hid em2
        replace en3 := Lib.hid en3
        replace em3 := Lib.hid em3
        clear hCA hCAA hCB hCBB hCE hCC hCD hCDA hCCB hCS hCN3 hCQ hCQ2 hCM3 hCN2 hCF hCH hCM2
        go_wp2_with (first
          | refine wpList_quo8 rfl (.tmp 36) (.const (.int .i64 8)) rfl rfl rfl HT8.out HTT.out ?_
          | refine wpList_rem8 rfl (.tmp 40) (.const (.int .i64 8)) rfl rfl rfl HR8.out HTT.out ?_
          | refine wpList_shr8 rfl (.tmp 39) (.tmp 41) rfl rfl rfl HSH.out HRL.out HXL.out ?_
          | refine wpList_and1 rfl (.tmp 42) (.const (.int .u8 1)) rfl rfl rfl HBT.out HYL.out ?_
          | (refine wpList_load_arr rfl 47 (.tmp 9) rfl 16 arrFe rx3 rfl (by omega) ?_; simp only [Nat.zero_add])
          | (refine wpList_load_arr rfl 47 (.tmp 7) rfl 16 arrFe rx2 rfl (by omega) ?_; simp only [Nat.zero_add])
          | (refine wpList_store_arr rfl 47 (.tmp 7) (.tmp 48) rfl 16 arrFe rx2 rfl rfl (by omega) (fun _ _ => rfl) ?_; intro x201 hr201 hg201 hs201
             have r201_x2 : x201.rowIs (g7) 47 16 (feF p3) := hr201.congr fun i hi => by unfold putN; rw [if_pos (by omega), Nat.sub_zero]
             have r201_k := gb_rowIs rk hg201 n_k_x2
             have r201_u := gb_rowIs ru hg201 n_u_x2
             have r201_z2 := gb_rowIs rz2 hg201 (Ne.symm n_x2_z2)
             have r201_x3 := gb_rowIs rx3 hg201 (Ne.symm n_x2_x3)
             have r201_z3 := gb_rowIs rz3 hg201 (Ne.symm n_x2_z3)
             have B201 := B.grown hg201 (HGS.out _ B) (by intro k hk; cases hk; exact l_x2)
             clear rx2 rk ru rz2 rx3 rz3 B hr201 hg201 hs201)
          | (refine wpList_store_arr rfl 47 (.tmp 9) (.tmp 49) rfl 16 arrFe r201_x3 rfl rfl (by omega) (fun _ _ => rfl) ?_; intro x202 hr202 hg202 hs202
             have r202_x3 : x202.rowIs (g9) 47 16 (feF p1) := hr202.congr fun i hi => by unfold putN; rw [if_pos (by omega), Nat.sub_zero]
             have r202_k := gb_rowIs r201_k hg202 n_k_x3
             have r202_u := gb_rowIs r201_u hg202 n_u_x3
             have r202_x2 := gb_rowIs r201_x2 hg202 n_x2_x3
             have r202_z2 := gb_rowIs r201_z2 hg202 n_z2_x3
             have r202_z3 := gb_rowIs r201_z3 hg202 (Ne.symm n_x3_z3)
             have B202 := B201.grown hg202 (HGS.out _ B201) (by intro k hk; cases hk; exact l_x3)
             clear r201_x3 r201_k r201_u r201_x2 r201_z2 r201_z3 B201 hr202 hg202 hs202)
          | (refine wpList_load_arr rfl 47 (.tmp 10) rfl 16 arrFe r202_z3 rfl (by omega) ?_; simp only [Nat.zero_add])
          | (refine wpList_load_arr rfl 47 (.tmp 8) rfl 16 arrFe r202_z2 rfl (by omega) ?_; simp only [Nat.zero_add])
          | (refine wpList_store_arr rfl 47 (.tmp 8) (.tmp 50) rfl 16 arrFe r202_z2 rfl rfl (by omega) (fun _ _ => rfl) ?_; intro x203 hr203 hg203 hs203
             have r203_z2 : x203.rowIs (g8) 47 16 (feF p4) := hr203.congr fun i hi => by unfold putN; rw [if_pos (by omega), Nat.sub_zero]
             have r203_k := gb_rowIs r202_k hg203 n_k_z2
             have r203_u := gb_rowIs r202_u hg203 n_u_z2
             have r203_x2 := gb_rowIs r202_x2 hg203 n_x2_z2
             have r203_x3 := gb_rowIs r202_x3 hg203 (Ne.symm n_z2_x3)
             have r203_z3 := gb_rowIs r202_z3 hg203 (Ne.symm n_z2_z3)
             have B203 := B202.grown hg203 (HGS.out _ B202) (by intro k hk; cases hk; exact l_z2)
             clear r202_z2 r202_k r202_u r202_x2 r202_x3 r202_z3 B202 hr203 hg203 hs203)
          | (refine wpList_store_arr rfl 47 (.tmp 10) (.tmp 51) rfl 16 arrFe r203_z3 rfl rfl (by omega) (fun _ _ => rfl) ?_; intro x204 hr204 hg204 hs204
             have r204_z3 : x204.rowIs (g10) 47 16 (feF p2) := hr204.congr fun i hi => by unfold putN; rw [if_pos (by omega), Nat.sub_zero]
             have r204_k := gb_rowIs r203_k hg204 n_k_z3
             have r204_u := gb_rowIs r203_u hg204 n_u_z3
             have r204_x2 := gb_rowIs r203_x2 hg204 n_x2_z3
             have r204_z2 := gb_rowIs r203_z2 hg204 n_z2_z3
             have r204_x3 := gb_rowIs r203_x3 hg204 n_x3_z3
             have B204 := B203.grown hg204 (HGS.out _ B203) (by intro k hk; cases hk; exact l_z3)
             clear r203_z3 r203_k r203_u r203_x2 r203_z2 r203_x3 B203 hr204 hg204 hs204)
          | (refine wpList_load_arr rfl 47 (.tmp 7) rfl 16 arrFe r204_x2 rfl (by omega) ?_; simp only [Nat.zero_add])
          | (refine wpList_load_arr rfl 47 (.tmp 8) rfl 16 arrFe r204_z2 rfl (by omega) ?_; simp only [Nat.zero_add])
          | (go_at_call 26
             first
               | (have hgo := B204; clear hgo; refine (CA.out _).mono ?_; rintro e w205 ⟨rfl, hb205⟩
                  have r205_k := World.rowIs.of_block r204_k (hb205.block _ (World.rowIs.lt r204_k))
                  have r205_u := World.rowIs.of_block r204_u (hb205.block _ (World.rowIs.lt r204_u))
                  have r205_x2 := World.rowIs.of_block r204_x2 (hb205.block _ (World.rowIs.lt r204_x2))
                  have r205_z2 := World.rowIs.of_block r204_z2 (hb205.block _ (World.rowIs.lt r204_z2))
                  have r205_x3 := World.rowIs.of_block r204_x3 (hb205.block _ (World.rowIs.lt r204_x3))
                  have r205_z3 := World.rowIs.of_block r204_z3 (hb205.block _ (World.rowIs.lt r204_z3))
                  have B205 := B204.trans (hb205.mono (HGS.out _ B204))
                  clear r204_k r204_u r204_x2 r204_z2 r204_x3 r204_z3 B204 hb205
                  have lt206_k := World.rowIs.lt r205_k
                  try simp only [World.size_alloc] at lt206_k
                  have lt206_u := World.rowIs.lt r205_u
                  try simp only [World.size_alloc] at lt206_u
                  have lt206_x2 := World.rowIs.lt r205_x2
                  try simp only [World.size_alloc] at lt206_x2
                  have lt206_z2 := World.rowIs.lt r205_z2
                  try simp only [World.size_alloc] at lt206_z2
                  have lt206_x3 := World.rowIs.lt r205_x3
                  try simp only [World.size_alloc] at lt206_x3
                  have lt206_z3 := World.rowIs.lt r205_z3
                  try simp only [World.size_alloc] at lt206_z3
                  have g206 := HGS.out _ B205
                  try simp only [World.size_alloc] at g206
                  have r206_k := World.rowIs.alloc r205_k (.cells (arrOf 16 (u64f fun _ => 0)) 47)
                  have r206_u := World.rowIs.alloc r205_u (.cells (arrOf 16 (u64f fun _ => 0)) 47)
                  have r206_x2 := World.rowIs.alloc r205_x2 (.cells (arrOf 16 (u64f fun _ => 0)) 47)
                  have r206_z2 := World.rowIs.alloc r205_z2 (.cells (arrOf 16 (u64f fun _ => 0)) 47)
                  have r206_x3 := World.rowIs.alloc r205_x3 (.cells (arrOf 16 (u64f fun _ => 0)) 47)
                  have r206_z3 := World.rowIs.alloc r205_z3 (.cells (arrOf 16 (u64f fun _ => 0)) 47)
                  have B206 := B205.alloc (HGS.out _ B205) (.cells (arrOf 16 (u64f fun _ => 0)) 47)
                  have r206_t14 := rowIs_arr w205 16 (u64f fun _ => 0) 47
                  try simp only [World.size_alloc] at r206_t14
                  clear B205)
               | (have hgo := B219; clear hgo; refine (CC.out _).mono ?_; rintro e w220 ⟨rfl, hb220⟩
                  have r220_k := World.rowIs.of_block r219_k (hb220.block _ (World.rowIs.lt r219_k))
                  have r220_u := World.rowIs.of_block r219_u (hb220.block _ (World.rowIs.lt r219_u))
                  have r220_x2 := World.rowIs.of_block r219_x2 (hb220.block _ (World.rowIs.lt r219_x2))
                  have r220_z2 := World.rowIs.of_block r219_z2 (hb220.block _ (World.rowIs.lt r219_z2))
                  have r220_x3 := World.rowIs.of_block r219_x3 (hb220.block _ (World.rowIs.lt r219_x3))
                  have r220_z3 := World.rowIs.of_block r219_z3 (hb220.block _ (World.rowIs.lt r219_z3))
                  have r220_t14 := World.rowIs.of_block r219_t14 (hb220.block _ (World.rowIs.lt r219_t14))
                  have r220_t15 := World.rowIs.of_block r219_t15 (hb220.block _ (World.rowIs.lt r219_t15))
                  have r220_t16 := World.rowIs.of_block r219_t16 (hb220.block _ (World.rowIs.lt r219_t16))
                  have r220_t17 := World.rowIs.of_block r219_t17 (hb220.block _ (World.rowIs.lt r219_t17))
                  have r220_t18 := World.rowIs.of_block r219_t18 (hb220.block _ (World.rowIs.lt r219_t18))
                  have B220 := B219.trans (hb220.mono (HGS.out _ B219))
                  clear r219_k r219_u r219_x2 r219_z2 r219_x3 r219_z3 r219_t14 r219_t15 r219_t16 r219_t17 r219_t18 B219 hb220
                  have lt221_k := World.rowIs.lt r220_k
                  try simp only [World.size_alloc] at lt221_k
                  have lt221_u := World.rowIs.lt r220_u
                  try simp only [World.size_alloc] at lt221_u
                  have lt221_x2 := World.rowIs.lt r220_x2
                  try simp only [World.size_alloc] at lt221_x2
                  have lt221_z2 := World.rowIs.lt r220_z2
                  try simp only [World.size_alloc] at lt221_z2
                  have lt221_x3 := World.rowIs.lt r220_x3
                  try simp only [World.size_alloc] at lt221_x3
                  have lt221_z3 := World.rowIs.lt r220_z3
                  try simp only [World.size_alloc] at lt221_z3
                  have lt221_t14 := World.rowIs.lt r220_t14
                  try simp only [World.size_alloc] at lt221_t14
                  have lt221_t15 := World.rowIs.lt r220_t15
                  try simp only [World.size_alloc] at lt221_t15
                  have lt221_t16 := World.rowIs.lt r220_t16
                  try simp only [World.size_alloc] at lt221_t16
                  have lt221_t17 := World.rowIs.lt r220_t17
                  try simp only [World.size_alloc] at lt221_t17
                  have lt221_t18 := World.rowIs.lt r220_t18
                  try simp only [World.size_alloc] at lt221_t18
                  have g221 := HGS.out _ B220
                  try simp only [World.size_alloc] at g221
                  have r221_k := World.rowIs.alloc r220_k (.cells (arrOf 16 (u64f fun _ => 0)) 47)
                  have r221_u := World.rowIs.alloc r220_u (.cells (arrOf 16 (u64f fun _ => 0)) 47)
                  have r221_x2 := World.rowIs.alloc r220_x2 (.cells (arrOf 16 (u64f fun _ => 0)) 47)
                  have r221_z2 := World.rowIs.alloc r220_z2 (.cells (arrOf 16 (u64f fun _ => 0)) 47)
                  have r221_x3 := World.rowIs.alloc r220_x3 (.cells (arrOf 16 (u64f fun _ => 0)) 47)
                  have r221_z3 := World.rowIs.alloc r220_z3 (.cells (arrOf 16 (u64f fun _ => 0)) 47)
                  have r221_t14 := World.rowIs.alloc r220_t14 (.cells (arrOf 16 (u64f fun _ => 0)) 47)
                  have r221_t15 := World.rowIs.alloc r220_t15 (.cells (arrOf 16 (u64f fun _ => 0)) 47)
                  have r221_t16 := World.rowIs.alloc r220_t16 (.cells (arrOf 16 (u64f fun _ => 0)) 47)
                  have r221_t17 := World.rowIs.alloc r220_t17 (.cells (arrOf 16 (u64f fun _ => 0)) 47)
                  have r221_t18 := World.rowIs.alloc r220_t18 (.cells (arrOf 16 (u64f fun _ => 0)) 47)
                  have B221 := B220.alloc (HGS.out _ B220) (.cells (arrOf 16 (u64f fun _ => 0)) 47)
                  have r221_t19 := rowIs_arr w220 16 (u64f fun _ => 0) 47
                  try simp only [World.size_alloc] at r221_t19
                  clear B220)
               | (have hgo := B231; clear hgo; refine (CS.out _).mono ?_; rintro e w232 ⟨rfl, hb232⟩
                  have r232_k := World.rowIs.of_block r231_k (hb232.block _ (World.rowIs.lt r231_k))
                  have r232_u := World.rowIs.of_block r231_u (hb232.block _ (World.rowIs.lt r231_u))
                  have r232_x2 := World.rowIs.of_block r231_x2 (hb232.block _ (World.rowIs.lt r231_x2))
                  have r232_z2 := World.rowIs.of_block r231_z2 (hb232.block _ (World.rowIs.lt r231_z2))
                  have r232_x3 := World.rowIs.of_block r231_x3 (hb232.block _ (World.rowIs.lt r231_x3))
                  have r232_z3 := World.rowIs.of_block r231_z3 (hb232.block _ (World.rowIs.lt r231_z3))
                  have r232_t14 := World.rowIs.of_block r231_t14 (hb232.block _ (World.rowIs.lt r231_t14))
                  have r232_t15 := World.rowIs.of_block r231_t15 (hb232.block _ (World.rowIs.lt r231_t15))
                  have r232_t16 := World.rowIs.of_block r231_t16 (hb232.block _ (World.rowIs.lt r231_t16))
                  have r232_t17 := World.rowIs.of_block r231_t17 (hb232.block _ (World.rowIs.lt r231_t17))
                  have r232_t18 := World.rowIs.of_block r231_t18 (hb232.block _ (World.rowIs.lt r231_t18))
                  have r232_t19 := World.rowIs.of_block r231_t19 (hb232.block _ (World.rowIs.lt r231_t19))
                  have r232_t20 := World.rowIs.of_block r231_t20 (hb232.block _ (World.rowIs.lt r231_t20))
                  have r232_t21 := World.rowIs.of_block r231_t21 (hb232.block _ (World.rowIs.lt r231_t21))
                  have r232_t22 := World.rowIs.of_block r231_t22 (hb232.block _ (World.rowIs.lt r231_t22))
                  have B232 := B231.trans (hb232.mono (HGS.out _ B231))
                  clear r231_k r231_u r231_x2 r231_z2 r231_x3 r231_z3 r231_t14 r231_t15 r231_t16 r231_t17 r231_t18 r231_t19 r231_t20 r231_t21 r231_t22 B231 hb232))
          | (refine wpList_alloc_arr rfl 47 rfl (arrOf 16 (u64f fun _ => 0)) zeroFe ?_; try simp only [World.size_alloc])
          | (refine wpList_store_arr rfl 47 (.tmp 14) (.tmp 55) rfl 16 arrFe r206_t14 rfl rfl (by omega) (fun _ _ => rfl) ?_; intro x207 hr207 hg207 hs207
             have r207_t14 : x207.rowIs (w205.heap.size) 47 16 (feF a) := hr207.congr fun i hi => by unfold putN; rw [if_pos (by omega), Nat.sub_zero]
             have r207_k := gb_rowIs r206_k hg207 (Nat.ne_of_lt lt206_k)
             have r207_u := gb_rowIs r206_u hg207 (Nat.ne_of_lt lt206_u)
             have r207_x2 := gb_rowIs r206_x2 hg207 (Nat.ne_of_lt lt206_x2)
             have r207_z2 := gb_rowIs r206_z2 hg207 (Nat.ne_of_lt lt206_z2)
             have r207_x3 := gb_rowIs r206_x3 hg207 (Nat.ne_of_lt lt206_x3)
             have r207_z3 := gb_rowIs r206_z3 hg207 (Nat.ne_of_lt lt206_z3)
             have B207 := B206.grown hg207 (HGS.out _ B206) (by intro k hk; cases hk; exact g206)
             clear r206_t14 r206_k r206_u r206_x2 r206_z2 r206_x3 r206_z3 B206 hr207 hg207 hs207)
          | (refine wpList_load_arr rfl 47 (.tmp 14) rfl 16 arrFe r207_t14 rfl (by omega) ?_; simp only [Nat.zero_add])
          | (go_at_call 27
             first
               | (have hgo := B207; clear hgo; refine (CAA.out _).mono ?_; rintro e w208 ⟨rfl, hb208⟩
                  have r208_k := World.rowIs.of_block r207_k (hb208.block _ (World.rowIs.lt r207_k))
                  have r208_u := World.rowIs.of_block r207_u (hb208.block _ (World.rowIs.lt r207_u))
                  have r208_x2 := World.rowIs.of_block r207_x2 (hb208.block _ (World.rowIs.lt r207_x2))
                  have r208_z2 := World.rowIs.of_block r207_z2 (hb208.block _ (World.rowIs.lt r207_z2))
                  have r208_x3 := World.rowIs.of_block r207_x3 (hb208.block _ (World.rowIs.lt r207_x3))
                  have r208_z3 := World.rowIs.of_block r207_z3 (hb208.block _ (World.rowIs.lt r207_z3))
                  have r208_t14 := World.rowIs.of_block r207_t14 (hb208.block _ (World.rowIs.lt r207_t14))
                  have B208 := B207.trans (hb208.mono (HGS.out _ B207))
                  clear r207_k r207_u r207_x2 r207_z2 r207_x3 r207_z3 r207_t14 B207 hb208
                  have lt209_k := World.rowIs.lt r208_k
                  try simp only [World.size_alloc] at lt209_k
                  have lt209_u := World.rowIs.lt r208_u
                  try simp only [World.size_alloc] at lt209_u
                  have lt209_x2 := World.rowIs.lt r208_x2
                  try simp only [World.size_alloc] at lt209_x2
                  have lt209_z2 := World.rowIs.lt r208_z2
                  try simp only [World.size_alloc] at lt209_z2
                  have lt209_x3 := World.rowIs.lt r208_x3
                  try simp only [World.size_alloc] at lt209_x3
                  have lt209_z3 := World.rowIs.lt r208_z3
                  try simp only [World.size_alloc] at lt209_z3
                  have lt209_t14 := World.rowIs.lt r208_t14
                  try simp only [World.size_alloc] at lt209_t14
                  have g209 := HGS.out _ B208
                  try simp only [World.size_alloc] at g209
                  have r209_k := World.rowIs.alloc r208_k (.cells (arrOf 16 (u64f fun _ => 0)) 47)
                  have r209_u := World.rowIs.alloc r208_u (.cells (arrOf 16 (u64f fun _ => 0)) 47)
                  have r209_x2 := World.rowIs.alloc r208_x2 (.cells (arrOf 16 (u64f fun _ => 0)) 47)
                  have r209_z2 := World.rowIs.alloc r208_z2 (.cells (arrOf 16 (u64f fun _ => 0)) 47)
                  have r209_x3 := World.rowIs.alloc r208_x3 (.cells (arrOf 16 (u64f fun _ => 0)) 47)
                  have r209_z3 := World.rowIs.alloc r208_z3 (.cells (arrOf 16 (u64f fun _ => 0)) 47)
                  have r209_t14 := World.rowIs.alloc r208_t14 (.cells (arrOf 16 (u64f fun _ => 0)) 47)
                  have B209 := B208.alloc (HGS.out _ B208) (.cells (arrOf 16 (u64f fun _ => 0)) 47)
                  have r209_t15 := rowIs_arr w208 16 (u64f fun _ => 0) 47
                  try simp only [World.size_alloc] at r209_t15
                  clear B208)
               | (have hgo := B213; clear hgo; refine (CBB.out _).mono ?_; rintro e w214 ⟨rfl, hb214⟩
                  have r214_k := World.rowIs.of_block r213_k (hb214.block _ (World.rowIs.lt r213_k))
                  have r214_u := World.rowIs.of_block r213_u (hb214.block _ (World.rowIs.lt r213_u))
                  have r214_x2 := World.rowIs.of_block r213_x2 (hb214.block _ (World.rowIs.lt r213_x2))
                  have r214_z2 := World.rowIs.of_block r213_z2 (hb214.block _ (World.rowIs.lt r213_z2))
                  have r214_x3 := World.rowIs.of_block r213_x3 (hb214.block _ (World.rowIs.lt r213_x3))
                  have r214_z3 := World.rowIs.of_block r213_z3 (hb214.block _ (World.rowIs.lt r213_z3))
                  have r214_t14 := World.rowIs.of_block r213_t14 (hb214.block _ (World.rowIs.lt r213_t14))
                  have r214_t15 := World.rowIs.of_block r213_t15 (hb214.block _ (World.rowIs.lt r213_t15))
                  have r214_t16 := World.rowIs.of_block r213_t16 (hb214.block _ (World.rowIs.lt r213_t16))
                  have B214 := B213.trans (hb214.mono (HGS.out _ B213))
                  clear r213_k r213_u r213_x2 r213_z2 r213_x3 r213_z3 r213_t14 r213_t15 r213_t16 B213 hb214
                  have lt215_k := World.rowIs.lt r214_k
                  try simp only [World.size_alloc] at lt215_k
                  have lt215_u := World.rowIs.lt r214_u
                  try simp only [World.size_alloc] at lt215_u
                  have lt215_x2 := World.rowIs.lt r214_x2
                  try simp only [World.size_alloc] at lt215_x2
                  have lt215_z2 := World.rowIs.lt r214_z2
                  try simp only [World.size_alloc] at lt215_z2
                  have lt215_x3 := World.rowIs.lt r214_x3
                  try simp only [World.size_alloc] at lt215_x3
                  have lt215_z3 := World.rowIs.lt r214_z3
                  try simp only [World.size_alloc] at lt215_z3
                  have lt215_t14 := World.rowIs.lt r214_t14
                  try simp only [World.size_alloc] at lt215_t14
                  have lt215_t15 := World.rowIs.lt r214_t15
                  try simp only [World.size_alloc] at lt215_t15
                  have lt215_t16 := World.rowIs.lt r214_t16
                  try simp only [World.size_alloc] at lt215_t16
                  have g215 := HGS.out _ B214
                  try simp only [World.size_alloc] at g215
                  have r215_k := World.rowIs.alloc r214_k (.cells (arrOf 16 (u64f fun _ => 0)) 47)
                  have r215_u := World.rowIs.alloc r214_u (.cells (arrOf 16 (u64f fun _ => 0)) 47)
                  have r215_x2 := World.rowIs.alloc r214_x2 (.cells (arrOf 16 (u64f fun _ => 0)) 47)
                  have r215_z2 := World.rowIs.alloc r214_z2 (.cells (arrOf 16 (u64f fun _ => 0)) 47)
                  have r215_x3 := World.rowIs.alloc r214_x3 (.cells (arrOf 16 (u64f fun _ => 0)) 47)
                  have r215_z3 := World.rowIs.alloc r214_z3 (.cells (arrOf 16 (u64f fun _ => 0)) 47)
                  have r215_t14 := World.rowIs.alloc r214_t14 (.cells (arrOf 16 (u64f fun _ => 0)) 47)
                  have r215_t15 := World.rowIs.alloc r214_t15 (.cells (arrOf 16 (u64f fun _ => 0)) 47)
                  have r215_t16 := World.rowIs.alloc r214_t16 (.cells (arrOf 16 (u64f fun _ => 0)) 47)
                  have B215 := B214.alloc (HGS.out _ B214) (.cells (arrOf 16 (u64f fun _ => 0)) 47)
                  have r215_t17 := rowIs_arr w214 16 (u64f fun _ => 0) 47
                  try simp only [World.size_alloc] at r215_t17
                  clear B214)
               | (have hgo := B225; clear hgo; refine (CDA.out _).mono ?_; rintro e w226 ⟨rfl, hb226⟩
                  have r226_k := World.rowIs.of_block r225_k (hb226.block _ (World.rowIs.lt r225_k))
                  have r226_u := World.rowIs.of_block r225_u (hb226.block _ (World.rowIs.lt r225_u))
                  have r226_x2 := World.rowIs.of_block r225_x2 (hb226.block _ (World.rowIs.lt r225_x2))
                  have r226_z2 := World.rowIs.of_block r225_z2 (hb226.block _ (World.rowIs.lt r225_z2))
                  have r226_x3 := World.rowIs.of_block r225_x3 (hb226.block _ (World.rowIs.lt r225_x3))
                  have r226_z3 := World.rowIs.of_block r225_z3 (hb226.block _ (World.rowIs.lt r225_z3))
                  have r226_t14 := World.rowIs.of_block r225_t14 (hb226.block _ (World.rowIs.lt r225_t14))
                  have r226_t15 := World.rowIs.of_block r225_t15 (hb226.block _ (World.rowIs.lt r225_t15))
                  have r226_t16 := World.rowIs.of_block r225_t16 (hb226.block _ (World.rowIs.lt r225_t16))
                  have r226_t17 := World.rowIs.of_block r225_t17 (hb226.block _ (World.rowIs.lt r225_t17))
                  have r226_t18 := World.rowIs.of_block r225_t18 (hb226.block _ (World.rowIs.lt r225_t18))
                  have r226_t19 := World.rowIs.of_block r225_t19 (hb226.block _ (World.rowIs.lt r225_t19))
                  have r226_t20 := World.rowIs.of_block r225_t20 (hb226.block _ (World.rowIs.lt r225_t20))
                  have B226 := B225.trans (hb226.mono (HGS.out _ B225))
                  clear r225_k r225_u r225_x2 r225_z2 r225_x3 r225_z3 r225_t14 r225_t15 r225_t16 r225_t17 r225_t18 r225_t19 r225_t20 B225 hb226
                  have lt227_k := World.rowIs.lt r226_k
                  try simp only [World.size_alloc] at lt227_k
                  have lt227_u := World.rowIs.lt r226_u
                  try simp only [World.size_alloc] at lt227_u
                  have lt227_x2 := World.rowIs.lt r226_x2
                  try simp only [World.size_alloc] at lt227_x2
                  have lt227_z2 := World.rowIs.lt r226_z2
                  try simp only [World.size_alloc] at lt227_z2
                  have lt227_x3 := World.rowIs.lt r226_x3
                  try simp only [World.size_alloc] at lt227_x3
                  have lt227_z3 := World.rowIs.lt r226_z3
                  try simp only [World.size_alloc] at lt227_z3
                  have lt227_t14 := World.rowIs.lt r226_t14
                  try simp only [World.size_alloc] at lt227_t14
                  have lt227_t15 := World.rowIs.lt r226_t15
                  try simp only [World.size_alloc] at lt227_t15
                  have lt227_t16 := World.rowIs.lt r226_t16
                  try simp only [World.size_alloc] at lt227_t16
                  have lt227_t17 := World.rowIs.lt r226_t17
                  try simp only [World.size_alloc] at lt227_t17
                  have lt227_t18 := World.rowIs.lt r226_t18
                  try simp only [World.size_alloc] at lt227_t18
                  have lt227_t19 := World.rowIs.lt r226_t19
                  try simp only [World.size_alloc] at lt227_t19
                  have lt227_t20 := World.rowIs.lt r226_t20
                  try simp only [World.size_alloc] at lt227_t20
                  have g227 := HGS.out _ B226
                  try simp only [World.size_alloc] at g227
                  have r227_k := World.rowIs.alloc r226_k (.cells (arrOf 16 (u64f fun _ => 0)) 47)
                  have r227_u := World.rowIs.alloc r226_u (.cells (arrOf 16 (u64f fun _ => 0)) 47)
                  have r227_x2 := World.rowIs.alloc r226_x2 (.cells (arrOf 16 (u64f fun _ => 0)) 47)
                  have r227_z2 := World.rowIs.alloc r226_z2 (.cells (arrOf 16 (u64f fun _ => 0)) 47)
                  have r227_x3 := World.rowIs.alloc r226_x3 (.cells (arrOf 16 (u64f fun _ => 0)) 47)
                  have r227_z3 := World.rowIs.alloc r226_z3 (.cells (arrOf 16 (u64f fun _ => 0)) 47)
                  have r227_t14 := World.rowIs.alloc r226_t14 (.cells (arrOf 16 (u64f fun _ => 0)) 47)
                  have r227_t15 := World.rowIs.alloc r226_t15 (.cells (arrOf 16 (u64f fun _ => 0)) 47)
                  have r227_t16 := World.rowIs.alloc r226_t16 (.cells (arrOf 16 (u64f fun _ => 0)) 47)
                  have r227_t17 := World.rowIs.alloc r226_t17 (.cells (arrOf 16 (u64f fun _ => 0)) 47)
                  have r227_t18 := World.rowIs.alloc r226_t18 (.cells (arrOf 16 (u64f fun _ => 0)) 47)
                  have r227_t19 := World.rowIs.alloc r226_t19 (.cells (arrOf 16 (u64f fun _ => 0)) 47)
                  have r227_t20 := World.rowIs.alloc r226_t20 (.cells (arrOf 16 (u64f fun _ => 0)) 47)
                  have B227 := B226.alloc (HGS.out _ B226) (.cells (arrOf 16 (u64f fun _ => 0)) 47)
                  have r227_t21 := rowIs_arr w226 16 (u64f fun _ => 0) 47
                  try simp only [World.size_alloc] at r227_t21
                  clear B226)
               | (have hgo := B228; clear hgo; refine (CCB.out _).mono ?_; rintro e w229 ⟨rfl, hb229⟩
                  have r229_k := World.rowIs.of_block r228_k (hb229.block _ (World.rowIs.lt r228_k))
                  have r229_u := World.rowIs.of_block r228_u (hb229.block _ (World.rowIs.lt r228_u))
                  have r229_x2 := World.rowIs.of_block r228_x2 (hb229.block _ (World.rowIs.lt r228_x2))
                  have r229_z2 := World.rowIs.of_block r228_z2 (hb229.block _ (World.rowIs.lt r228_z2))
                  have r229_x3 := World.rowIs.of_block r228_x3 (hb229.block _ (World.rowIs.lt r228_x3))
                  have r229_z3 := World.rowIs.of_block r228_z3 (hb229.block _ (World.rowIs.lt r228_z3))
                  have r229_t14 := World.rowIs.of_block r228_t14 (hb229.block _ (World.rowIs.lt r228_t14))
                  have r229_t15 := World.rowIs.of_block r228_t15 (hb229.block _ (World.rowIs.lt r228_t15))
                  have r229_t16 := World.rowIs.of_block r228_t16 (hb229.block _ (World.rowIs.lt r228_t16))
                  have r229_t17 := World.rowIs.of_block r228_t17 (hb229.block _ (World.rowIs.lt r228_t17))
                  have r229_t18 := World.rowIs.of_block r228_t18 (hb229.block _ (World.rowIs.lt r228_t18))
                  have r229_t19 := World.rowIs.of_block r228_t19 (hb229.block _ (World.rowIs.lt r228_t19))
                  have r229_t20 := World.rowIs.of_block r228_t20 (hb229.block _ (World.rowIs.lt r228_t20))
                  have r229_t21 := World.rowIs.of_block r228_t21 (hb229.block _ (World.rowIs.lt r228_t21))
                  have B229 := B228.trans (hb229.mono (HGS.out _ B228))
                  clear r228_k r228_u r228_x2 r228_z2 r228_x3 r228_z3 r228_t14 r228_t15 r228_t16 r228_t17 r228_t18 r228_t19 r228_t20 r228_t21 B228 hb229
                  have lt230_k := World.rowIs.lt r229_k
                  try simp only [World.size_alloc] at lt230_k
                  have lt230_u := World.rowIs.lt r229_u
                  try simp only [World.size_alloc] at lt230_u
                  have lt230_x2 := World.rowIs.lt r229_x2
                  try simp only [World.size_alloc] at lt230_x2
                  have lt230_z2 := World.rowIs.lt r229_z2
                  try simp only [World.size_alloc] at lt230_z2
                  have lt230_x3 := World.rowIs.lt r229_x3
                  try simp only [World.size_alloc] at lt230_x3
                  have lt230_z3 := World.rowIs.lt r229_z3
                  try simp only [World.size_alloc] at lt230_z3
                  have lt230_t14 := World.rowIs.lt r229_t14
                  try simp only [World.size_alloc] at lt230_t14
                  have lt230_t15 := World.rowIs.lt r229_t15
                  try simp only [World.size_alloc] at lt230_t15
                  have lt230_t16 := World.rowIs.lt r229_t16
                  try simp only [World.size_alloc] at lt230_t16
                  have lt230_t17 := World.rowIs.lt r229_t17
                  try simp only [World.size_alloc] at lt230_t17
                  have lt230_t18 := World.rowIs.lt r229_t18
                  try simp only [World.size_alloc] at lt230_t18
                  have lt230_t19 := World.rowIs.lt r229_t19
                  try simp only [World.size_alloc] at lt230_t19
                  have lt230_t20 := World.rowIs.lt r229_t20
                  try simp only [World.size_alloc] at lt230_t20
                  have lt230_t21 := World.rowIs.lt r229_t21
                  try simp only [World.size_alloc] at lt230_t21
                  have g230 := HGS.out _ B229
                  try simp only [World.size_alloc] at g230
                  have r230_k := World.rowIs.alloc r229_k (.cells (arrOf 16 (u64f fun _ => 0)) 47)
                  have r230_u := World.rowIs.alloc r229_u (.cells (arrOf 16 (u64f fun _ => 0)) 47)
                  have r230_x2 := World.rowIs.alloc r229_x2 (.cells (arrOf 16 (u64f fun _ => 0)) 47)
                  have r230_z2 := World.rowIs.alloc r229_z2 (.cells (arrOf 16 (u64f fun _ => 0)) 47)
                  have r230_x3 := World.rowIs.alloc r229_x3 (.cells (arrOf 16 (u64f fun _ => 0)) 47)
                  have r230_z3 := World.rowIs.alloc r229_z3 (.cells (arrOf 16 (u64f fun _ => 0)) 47)
                  have r230_t14 := World.rowIs.alloc r229_t14 (.cells (arrOf 16 (u64f fun _ => 0)) 47)
                  have r230_t15 := World.rowIs.alloc r229_t15 (.cells (arrOf 16 (u64f fun _ => 0)) 47)
                  have r230_t16 := World.rowIs.alloc r229_t16 (.cells (arrOf 16 (u64f fun _ => 0)) 47)
                  have r230_t17 := World.rowIs.alloc r229_t17 (.cells (arrOf 16 (u64f fun _ => 0)) 47)
                  have r230_t18 := World.rowIs.alloc r229_t18 (.cells (arrOf 16 (u64f fun _ => 0)) 47)
                  have r230_t19 := World.rowIs.alloc r229_t19 (.cells (arrOf 16 (u64f fun _ => 0)) 47)
                  have r230_t20 := World.rowIs.alloc r229_t20 (.cells (arrOf 16 (u64f fun _ => 0)) 47)
                  have r230_t21 := World.rowIs.alloc r229_t21 (.cells (arrOf 16 (u64f fun _ => 0)) 47)
                  have B230 := B229.alloc (HGS.out _ B229) (.cells (arrOf 16 (u64f fun _ => 0)) 47)
                  have r230_t22 := rowIs_arr w229 16 (u64f fun _ => 0) 47
                  try simp only [World.size_alloc] at r230_t22
                  clear B229)
               | (have hgo := B233; clear hgo; refine (CN3.out _).mono ?_; rintro e w234 ⟨rfl, hb234⟩
                  have r234_k := World.rowIs.of_block r233_k (hb234.block _ (World.rowIs.lt r233_k))
                  have r234_u := World.rowIs.of_block r233_u (hb234.block _ (World.rowIs.lt r233_u))
                  have r234_x2 := World.rowIs.of_block r233_x2 (hb234.block _ (World.rowIs.lt r233_x2))
                  have r234_z2 := World.rowIs.of_block r233_z2 (hb234.block _ (World.rowIs.lt r233_z2))
                  have r234_x3 := World.rowIs.of_block r233_x3 (hb234.block _ (World.rowIs.lt r233_x3))
                  have r234_z3 := World.rowIs.of_block r233_z3 (hb234.block _ (World.rowIs.lt r233_z3))
                  have r234_t14 := World.rowIs.of_block r233_t14 (hb234.block _ (World.rowIs.lt r233_t14))
                  have r234_t15 := World.rowIs.of_block r233_t15 (hb234.block _ (World.rowIs.lt r233_t15))
                  have r234_t16 := World.rowIs.of_block r233_t16 (hb234.block _ (World.rowIs.lt r233_t16))
                  have r234_t17 := World.rowIs.of_block r233_t17 (hb234.block _ (World.rowIs.lt r233_t17))
                  have r234_t18 := World.rowIs.of_block r233_t18 (hb234.block _ (World.rowIs.lt r233_t18))
                  have r234_t19 := World.rowIs.of_block r233_t19 (hb234.block _ (World.rowIs.lt r233_t19))
                  have r234_t20 := World.rowIs.of_block r233_t20 (hb234.block _ (World.rowIs.lt r233_t20))
                  have r234_t21 := World.rowIs.of_block r233_t21 (hb234.block _ (World.rowIs.lt r233_t21))
                  have r234_t22 := World.rowIs.of_block r233_t22 (hb234.block _ (World.rowIs.lt r233_t22))
                  have B234 := B233.trans (hb234.mono (HGS.out _ B233))
                  clear r233_k r233_u r233_x2 r233_z2 r233_x3 r233_z3 r233_t14 r233_t15 r233_t16 r233_t17 r233_t18 r233_t19 r233_t20 r233_t21 r233_t22 B233 hb234))
          | (refine wpList_store_arr rfl 47 (.tmp 15) (.tmp 58) rfl 16 arrFe r209_t15 rfl rfl (by omega) (fun _ _ => rfl) ?_; intro x210 hr210 hg210 hs210
             have r210_t15 : x210.rowIs (w208.heap.size) 47 16 (feF aa) := hr210.congr fun i hi => by unfold putN; rw [if_pos (by omega), Nat.sub_zero]
             have r210_k := gb_rowIs r209_k hg210 (Nat.ne_of_lt lt209_k)
             have r210_u := gb_rowIs r209_u hg210 (Nat.ne_of_lt lt209_u)
             have r210_x2 := gb_rowIs r209_x2 hg210 (Nat.ne_of_lt lt209_x2)
             have r210_z2 := gb_rowIs r209_z2 hg210 (Nat.ne_of_lt lt209_z2)
             have r210_x3 := gb_rowIs r209_x3 hg210 (Nat.ne_of_lt lt209_x3)
             have r210_z3 := gb_rowIs r209_z3 hg210 (Nat.ne_of_lt lt209_z3)
             have r210_t14 := gb_rowIs r209_t14 hg210 (Nat.ne_of_lt lt209_t14)
             have B210 := B209.grown hg210 (HGS.out _ B209) (by intro k hk; cases hk; exact g209)
             clear r209_t15 r209_k r209_u r209_x2 r209_z2 r209_x3 r209_z3 r209_t14 B209 hr210 hg210 hs210)
          | (refine wpList_load_arr rfl 47 (.tmp 7) rfl 16 arrFe r210_x2 rfl (by omega) ?_; simp only [Nat.zero_add])
          | (refine wpList_load_arr rfl 47 (.tmp 8) rfl 16 arrFe r210_z2 rfl (by omega) ?_; simp only [Nat.zero_add])
          | (go_at_call 28
             first
               | (have hgo := B210; clear hgo; refine (CB.out _).mono ?_; rintro e w211 ⟨rfl, hb211⟩
                  have r211_k := World.rowIs.of_block r210_k (hb211.block _ (World.rowIs.lt r210_k))
                  have r211_u := World.rowIs.of_block r210_u (hb211.block _ (World.rowIs.lt r210_u))
                  have r211_x2 := World.rowIs.of_block r210_x2 (hb211.block _ (World.rowIs.lt r210_x2))
                  have r211_z2 := World.rowIs.of_block r210_z2 (hb211.block _ (World.rowIs.lt r210_z2))
                  have r211_x3 := World.rowIs.of_block r210_x3 (hb211.block _ (World.rowIs.lt r210_x3))
                  have r211_z3 := World.rowIs.of_block r210_z3 (hb211.block _ (World.rowIs.lt r210_z3))
                  have r211_t14 := World.rowIs.of_block r210_t14 (hb211.block _ (World.rowIs.lt r210_t14))
                  have r211_t15 := World.rowIs.of_block r210_t15 (hb211.block _ (World.rowIs.lt r210_t15))
                  have B211 := B210.trans (hb211.mono (HGS.out _ B210))
                  clear r210_k r210_u r210_x2 r210_z2 r210_x3 r210_z3 r210_t14 r210_t15 B210 hb211
                  have lt212_k := World.rowIs.lt r211_k
                  try simp only [World.size_alloc] at lt212_k
                  have lt212_u := World.rowIs.lt r211_u
                  try simp only [World.size_alloc] at lt212_u
                  have lt212_x2 := World.rowIs.lt r211_x2
                  try simp only [World.size_alloc] at lt212_x2
                  have lt212_z2 := World.rowIs.lt r211_z2
                  try simp only [World.size_alloc] at lt212_z2
                  have lt212_x3 := World.rowIs.lt r211_x3
                  try simp only [World.size_alloc] at lt212_x3
                  have lt212_z3 := World.rowIs.lt r211_z3
                  try simp only [World.size_alloc] at lt212_z3
                  have lt212_t14 := World.rowIs.lt r211_t14
                  try simp only [World.size_alloc] at lt212_t14
                  have lt212_t15 := World.rowIs.lt r211_t15
                  try simp only [World.size_alloc] at lt212_t15
                  have g212 := HGS.out _ B211
                  try simp only [World.size_alloc] at g212
                  have r212_k := World.rowIs.alloc r211_k (.cells (arrOf 16 (u64f fun _ => 0)) 47)
                  have r212_u := World.rowIs.alloc r211_u (.cells (arrOf 16 (u64f fun _ => 0)) 47)
                  have r212_x2 := World.rowIs.alloc r211_x2 (.cells (arrOf 16 (u64f fun _ => 0)) 47)
                  have r212_z2 := World.rowIs.alloc r211_z2 (.cells (arrOf 16 (u64f fun _ => 0)) 47)
                  have r212_x3 := World.rowIs.alloc r211_x3 (.cells (arrOf 16 (u64f fun _ => 0)) 47)
                  have r212_z3 := World.rowIs.alloc r211_z3 (.cells (arrOf 16 (u64f fun _ => 0)) 47)
                  have r212_t14 := World.rowIs.alloc r211_t14 (.cells (arrOf 16 (u64f fun _ => 0)) 47)
                  have r212_t15 := World.rowIs.alloc r211_t15 (.cells (arrOf 16 (u64f fun _ => 0)) 47)
                  have B212 := B211.alloc (HGS.out _ B211) (.cells (arrOf 16 (u64f fun _ => 0)) 47)
                  have r212_t16 := rowIs_arr w211 16 (u64f fun _ => 0) 47
                  try simp only [World.size_alloc] at r212_t16
                  clear B211)
               | (have hgo := B216; clear hgo; refine (CE.out _).mono ?_; rintro e w217 ⟨rfl, hb217⟩
                  have r217_k := World.rowIs.of_block r216_k (hb217.block _ (World.rowIs.lt r216_k))
                  have r217_u := World.rowIs.of_block r216_u (hb217.block _ (World.rowIs.lt r216_u))
                  have r217_x2 := World.rowIs.of_block r216_x2 (hb217.block _ (World.rowIs.lt r216_x2))
                  have r217_z2 := World.rowIs.of_block r216_z2 (hb217.block _ (World.rowIs.lt r216_z2))
                  have r217_x3 := World.rowIs.of_block r216_x3 (hb217.block _ (World.rowIs.lt r216_x3))
                  have r217_z3 := World.rowIs.of_block r216_z3 (hb217.block _ (World.rowIs.lt r216_z3))
                  have r217_t14 := World.rowIs.of_block r216_t14 (hb217.block _ (World.rowIs.lt r216_t14))
                  have r217_t15 := World.rowIs.of_block r216_t15 (hb217.block _ (World.rowIs.lt r216_t15))
                  have r217_t16 := World.rowIs.of_block r216_t16 (hb217.block _ (World.rowIs.lt r216_t16))
                  have r217_t17 := World.rowIs.of_block r216_t17 (hb217.block _ (World.rowIs.lt r216_t17))
                  have B217 := B216.trans (hb217.mono (HGS.out _ B216))
                  clear r216_k r216_u r216_x2 r216_z2 r216_x3 r216_z3 r216_t14 r216_t15 r216_t16 r216_t17 B216 hb217
                  have lt218_k := World.rowIs.lt r217_k
                  try simp only [World.size_alloc] at lt218_k
                  have lt218_u := World.rowIs.lt r217_u
                  try simp only [World.size_alloc] at lt218_u
                  have lt218_x2 := World.rowIs.lt r217_x2
                  try simp only [World.size_alloc] at lt218_x2
                  have lt218_z2 := World.rowIs.lt r217_z2
                  try simp only [World.size_alloc] at lt218_z2
                  have lt218_x3 := World.rowIs.lt r217_x3
                  try simp only [World.size_alloc] at lt218_x3
                  have lt218_z3 := World.rowIs.lt r217_z3
                  try simp only [World.size_alloc] at lt218_z3
                  have lt218_t14 := World.rowIs.lt r217_t14
                  try simp only [World.size_alloc] at lt218_t14
                  have lt218_t15 := World.rowIs.lt r217_t15
                  try simp only [World.size_alloc] at lt218_t15
                  have lt218_t16 := World.rowIs.lt r217_t16
                  try simp only [World.size_alloc] at lt218_t16
                  have lt218_t17 := World.rowIs.lt r217_t17
                  try simp only [World.size_alloc] at lt218_t17
                  have g218 := HGS.out _ B217
                  try simp only [World.size_alloc] at g218
                  have r218_k := World.rowIs.alloc r217_k (.cells (arrOf 16 (u64f fun _ => 0)) 47)
                  have r218_u := World.rowIs.alloc r217_u (.cells (arrOf 16 (u64f fun _ => 0)) 47)
                  have r218_x2 := World.rowIs.alloc r217_x2 (.cells (arrOf 16 (u64f fun _ => 0)) 47)
                  have r218_z2 := World.rowIs.alloc r217_z2 (.cells (arrOf 16 (u64f fun _ => 0)) 47)
                  have r218_x3 := World.rowIs.alloc r217_x3 (.cells (arrOf 16 (u64f fun _ => 0)) 47)
                  have r218_z3 := World.rowIs.alloc r217_z3 (.cells (arrOf 16 (u64f fun _ => 0)) 47)
                  have r218_t14 := World.rowIs.alloc r217_t14 (.cells (arrOf 16 (u64f fun _ => 0)) 47)
                  have r218_t15 := World.rowIs.alloc r217_t15 (.cells (arrOf 16 (u64f fun _ => 0)) 47)
                  have r218_t16 := World.rowIs.alloc r217_t16 (.cells (arrOf 16 (u64f fun _ => 0)) 47)
                  have r218_t17 := World.rowIs.alloc r217_t17 (.cells (arrOf 16 (u64f fun _ => 0)) 47)
                  have B218 := B217.alloc (HGS.out _ B217) (.cells (arrOf 16 (u64f fun _ => 0)) 47)
                  have r218_t18 := rowIs_arr w217 16 (u64f fun _ => 0) 47
                  try simp only [World.size_alloc] at r218_t18
                  clear B217)
               | (have hgo := B222; clear hgo; refine (CD.out _).mono ?_; rintro e w223 ⟨rfl, hb223⟩
                  have r223_k := World.rowIs.of_block r222_k (hb223.block _ (World.rowIs.lt r222_k))
                  have r223_u := World.rowIs.of_block r222_u (hb223.block _ (World.rowIs.lt r222_u))
                  have r223_x2 := World.rowIs.of_block r222_x2 (hb223.block _ (World.rowIs.lt r222_x2))
                  have r223_z2 := World.rowIs.of_block r222_z2 (hb223.block _ (World.rowIs.lt r222_z2))
                  have r223_x3 := World.rowIs.of_block r222_x3 (hb223.block _ (World.rowIs.lt r222_x3))
                  have r223_z3 := World.rowIs.of_block r222_z3 (hb223.block _ (World.rowIs.lt r222_z3))
                  have r223_t14 := World.rowIs.of_block r222_t14 (hb223.block _ (World.rowIs.lt r222_t14))
                  have r223_t15 := World.rowIs.of_block r222_t15 (hb223.block _ (World.rowIs.lt r222_t15))
                  have r223_t16 := World.rowIs.of_block r222_t16 (hb223.block _ (World.rowIs.lt r222_t16))
                  have r223_t17 := World.rowIs.of_block r222_t17 (hb223.block _ (World.rowIs.lt r222_t17))
                  have r223_t18 := World.rowIs.of_block r222_t18 (hb223.block _ (World.rowIs.lt r222_t18))
                  have r223_t19 := World.rowIs.of_block r222_t19 (hb223.block _ (World.rowIs.lt r222_t19))
                  have B223 := B222.trans (hb223.mono (HGS.out _ B222))
                  clear r222_k r222_u r222_x2 r222_z2 r222_x3 r222_z3 r222_t14 r222_t15 r222_t16 r222_t17 r222_t18 r222_t19 B222 hb223
                  have lt224_k := World.rowIs.lt r223_k
                  try simp only [World.size_alloc] at lt224_k
                  have lt224_u := World.rowIs.lt r223_u
                  try simp only [World.size_alloc] at lt224_u
                  have lt224_x2 := World.rowIs.lt r223_x2
                  try simp only [World.size_alloc] at lt224_x2
                  have lt224_z2 := World.rowIs.lt r223_z2
                  try simp only [World.size_alloc] at lt224_z2
                  have lt224_x3 := World.rowIs.lt r223_x3
                  try simp only [World.size_alloc] at lt224_x3
                  have lt224_z3 := World.rowIs.lt r223_z3
                  try simp only [World.size_alloc] at lt224_z3
                  have lt224_t14 := World.rowIs.lt r223_t14
                  try simp only [World.size_alloc] at lt224_t14
                  have lt224_t15 := World.rowIs.lt r223_t15
                  try simp only [World.size_alloc] at lt224_t15
                  have lt224_t16 := World.rowIs.lt r223_t16
                  try simp only [World.size_alloc] at lt224_t16
                  have lt224_t17 := World.rowIs.lt r223_t17
                  try simp only [World.size_alloc] at lt224_t17
                  have lt224_t18 := World.rowIs.lt r223_t18
                  try simp only [World.size_alloc] at lt224_t18
                  have lt224_t19 := World.rowIs.lt r223_t19
                  try simp only [World.size_alloc] at lt224_t19
                  have g224 := HGS.out _ B223
                  try simp only [World.size_alloc] at g224
                  have r224_k := World.rowIs.alloc r223_k (.cells (arrOf 16 (u64f fun _ => 0)) 47)
                  have r224_u := World.rowIs.alloc r223_u (.cells (arrOf 16 (u64f fun _ => 0)) 47)
                  have r224_x2 := World.rowIs.alloc r223_x2 (.cells (arrOf 16 (u64f fun _ => 0)) 47)
                  have r224_z2 := World.rowIs.alloc r223_z2 (.cells (arrOf 16 (u64f fun _ => 0)) 47)
                  have r224_x3 := World.rowIs.alloc r223_x3 (.cells (arrOf 16 (u64f fun _ => 0)) 47)
                  have r224_z3 := World.rowIs.alloc r223_z3 (.cells (arrOf 16 (u64f fun _ => 0)) 47)
                  have r224_t14 := World.rowIs.alloc r223_t14 (.cells (arrOf 16 (u64f fun _ => 0)) 47)
                  have r224_t15 := World.rowIs.alloc r223_t15 (.cells (arrOf 16 (u64f fun _ => 0)) 47)
                  have r224_t16 := World.rowIs.alloc r223_t16 (.cells (arrOf 16 (u64f fun _ => 0)) 47)
                  have r224_t17 := World.rowIs.alloc r223_t17 (.cells (arrOf 16 (u64f fun _ => 0)) 47)
                  have r224_t18 := World.rowIs.alloc r223_t18 (.cells (arrOf 16 (u64f fun _ => 0)) 47)
                  have r224_t19 := World.rowIs.alloc r223_t19 (.cells (arrOf 16 (u64f fun _ => 0)) 47)
                  have B224 := B223.alloc (HGS.out _ B223) (.cells (arrOf 16 (u64f fun _ => 0)) 47)
                  have r224_t20 := rowIs_arr w223 16 (u64f fun _ => 0) 47
                  try simp only [World.size_alloc] at r224_t20
                  clear B223)
               | (have hgo := B235; clear hgo; refine (CQ.out _).mono ?_; rintro e w236 ⟨rfl, hb236⟩
                  have r236_k := World.rowIs.of_block r235_k (hb236.block _ (World.rowIs.lt r235_k))
                  have r236_u := World.rowIs.of_block r235_u (hb236.block _ (World.rowIs.lt r235_u))
                  have r236_x2 := World.rowIs.of_block r235_x2 (hb236.block _ (World.rowIs.lt r235_x2))
                  have r236_z2 := World.rowIs.of_block r235_z2 (hb236.block _ (World.rowIs.lt r235_z2))
                  have r236_x3 := World.rowIs.of_block r235_x3 (hb236.block _ (World.rowIs.lt r235_x3))
                  have r236_z3 := World.rowIs.of_block r235_z3 (hb236.block _ (World.rowIs.lt r235_z3))
                  have r236_t14 := World.rowIs.of_block r235_t14 (hb236.block _ (World.rowIs.lt r235_t14))
                  have r236_t15 := World.rowIs.of_block r235_t15 (hb236.block _ (World.rowIs.lt r235_t15))
                  have r236_t16 := World.rowIs.of_block r235_t16 (hb236.block _ (World.rowIs.lt r235_t16))
                  have r236_t17 := World.rowIs.of_block r235_t17 (hb236.block _ (World.rowIs.lt r235_t17))
                  have r236_t18 := World.rowIs.of_block r235_t18 (hb236.block _ (World.rowIs.lt r235_t18))
                  have r236_t19 := World.rowIs.of_block r235_t19 (hb236.block _ (World.rowIs.lt r235_t19))
                  have r236_t20 := World.rowIs.of_block r235_t20 (hb236.block _ (World.rowIs.lt r235_t20))
                  have r236_t21 := World.rowIs.of_block r235_t21 (hb236.block _ (World.rowIs.lt r235_t21))
                  have r236_t22 := World.rowIs.of_block r235_t22 (hb236.block _ (World.rowIs.lt r235_t22))
                  have B236 := B235.trans (hb236.mono (HGS.out _ B235))
                  clear r235_k r235_u r235_x2 r235_z2 r235_x3 r235_z3 r235_t14 r235_t15 r235_t16 r235_t17 r235_t18 r235_t19 r235_t20 r235_t21 r235_t22 B235 hb236))
          | (refine wpList_store_arr rfl 47 (.tmp 16) (.tmp 61) rfl 16 arrFe r212_t16 rfl rfl (by omega) (fun _ _ => rfl) ?_; intro x213 hr213 hg213 hs213
             have r213_t16 : x213.rowIs (w211.heap.size) 47 16 (feF b) := hr213.congr fun i hi => by unfold putN; rw [if_pos (by omega), Nat.sub_zero]
             have r213_k := gb_rowIs r212_k hg213 (Nat.ne_of_lt lt212_k)
             have r213_u := gb_rowIs r212_u hg213 (Nat.ne_of_lt lt212_u)
             have r213_x2 := gb_rowIs r212_x2 hg213 (Nat.ne_of_lt lt212_x2)
             have r213_z2 := gb_rowIs r212_z2 hg213 (Nat.ne_of_lt lt212_z2)
             have r213_x3 := gb_rowIs r212_x3 hg213 (Nat.ne_of_lt lt212_x3)
             have r213_z3 := gb_rowIs r212_z3 hg213 (Nat.ne_of_lt lt212_z3)
             have r213_t14 := gb_rowIs r212_t14 hg213 (Nat.ne_of_lt lt212_t14)
             have r213_t15 := gb_rowIs r212_t15 hg213 (Nat.ne_of_lt lt212_t15)
             have B213 := B212.grown hg213 (HGS.out _ B212) (by intro k hk; cases hk; exact g212)
             clear r212_t16 r212_k r212_u r212_x2 r212_z2 r212_x3 r212_z3 r212_t14 r212_t15 B212 hr213 hg213 hs213)
          | (refine wpList_load_arr rfl 47 (.tmp 16) rfl 16 arrFe r213_t16 rfl (by omega) ?_; simp only [Nat.zero_add])
          | (refine wpList_store_arr rfl 47 (.tmp 17) (.tmp 64) rfl 16 arrFe r215_t17 rfl rfl (by omega) (fun _ _ => rfl) ?_; intro x216 hr216 hg216 hs216
             have r216_t17 : x216.rowIs (w214.heap.size) 47 16 (feF bb) := hr216.congr fun i hi => by unfold putN; rw [if_pos (by omega), Nat.sub_zero]
             have r216_k := gb_rowIs r215_k hg216 (Nat.ne_of_lt lt215_k)
             have r216_u := gb_rowIs r215_u hg216 (Nat.ne_of_lt lt215_u)
             have r216_x2 := gb_rowIs r215_x2 hg216 (Nat.ne_of_lt lt215_x2)
             have r216_z2 := gb_rowIs r215_z2 hg216 (Nat.ne_of_lt lt215_z2)
             have r216_x3 := gb_rowIs r215_x3 hg216 (Nat.ne_of_lt lt215_x3)
             have r216_z3 := gb_rowIs r215_z3 hg216 (Nat.ne_of_lt lt215_z3)
             have r216_t14 := gb_rowIs r215_t14 hg216 (Nat.ne_of_lt lt215_t14)
             have r216_t15 := gb_rowIs r215_t15 hg216 (Nat.ne_of_lt lt215_t15)
             have r216_t16 := gb_rowIs r215_t16 hg216 (Nat.ne_of_lt lt215_t16)
             have B216 := B215.grown hg216 (HGS.out _ B215) (by intro k hk; cases hk; exact g215)
             clear r215_t17 r215_k r215_u r215_x2 r215_z2 r215_x3 r215_z3 r215_t14 r215_t15 r215_t16 B215 hr216 hg216 hs216)
          | (refine wpList_load_arr rfl 47 (.tmp 15) rfl 16 arrFe r216_t15 rfl (by omega) ?_; simp only [Nat.zero_add])
          | (refine wpList_load_arr rfl 47 (.tmp 17) rfl 16 arrFe r216_t17 rfl (by omega) ?_; simp only [Nat.zero_add])
          | (refine wpList_store_arr rfl 47 (.tmp 18) (.tmp 67) rfl 16 arrFe r218_t18 rfl rfl (by omega) (fun _ _ => rfl) ?_; intro x219 hr219 hg219 hs219
             have r219_t18 : x219.rowIs (w217.heap.size) 47 16 (feF e) := hr219.congr fun i hi => by unfold putN; rw [if_pos (by omega), Nat.sub_zero]
             have r219_k := gb_rowIs r218_k hg219 (Nat.ne_of_lt lt218_k)
             have r219_u := gb_rowIs r218_u hg219 (Nat.ne_of_lt lt218_u)
             have r219_x2 := gb_rowIs r218_x2 hg219 (Nat.ne_of_lt lt218_x2)
             have r219_z2 := gb_rowIs r218_z2 hg219 (Nat.ne_of_lt lt218_z2)
             have r219_x3 := gb_rowIs r218_x3 hg219 (Nat.ne_of_lt lt218_x3)
             have r219_z3 := gb_rowIs r218_z3 hg219 (Nat.ne_of_lt lt218_z3)
             have r219_t14 := gb_rowIs r218_t14 hg219 (Nat.ne_of_lt lt218_t14)
             have r219_t15 := gb_rowIs r218_t15 hg219 (Nat.ne_of_lt lt218_t15)
             have r219_t16 := gb_rowIs r218_t16 hg219 (Nat.ne_of_lt lt218_t16)
             have r219_t17 := gb_rowIs r218_t17 hg219 (Nat.ne_of_lt lt218_t17)
             have B219 := B218.grown hg219 (HGS.out _ B218) (by intro k hk; cases hk; exact g218)
             clear r218_t18 r218_k r218_u r218_x2 r218_z2 r218_x3 r218_z3 r218_t14 r218_t15 r218_t16 r218_t17 B218 hr219 hg219 hs219)
          | (refine wpList_load_arr rfl 47 (.tmp 9) rfl 16 arrFe r219_x3 rfl (by omega) ?_; simp only [Nat.zero_add])
          | (refine wpList_load_arr rfl 47 (.tmp 10) rfl 16 arrFe r219_z3 rfl (by omega) ?_; simp only [Nat.zero_add])
          | (refine wpList_store_arr rfl 47 (.tmp 19) (.tmp 70) rfl 16 arrFe r221_t19 rfl rfl (by omega) (fun _ _ => rfl) ?_; intro x222 hr222 hg222 hs222
             have r222_t19 : x222.rowIs (w220.heap.size) 47 16 (feF c) := hr222.congr fun i hi => by unfold putN; rw [if_pos (by omega), Nat.sub_zero]
             have r222_k := gb_rowIs r221_k hg222 (Nat.ne_of_lt lt221_k)
             have r222_u := gb_rowIs r221_u hg222 (Nat.ne_of_lt lt221_u)
             have r222_x2 := gb_rowIs r221_x2 hg222 (Nat.ne_of_lt lt221_x2)
             have r222_z2 := gb_rowIs r221_z2 hg222 (Nat.ne_of_lt lt221_z2)
             have r222_x3 := gb_rowIs r221_x3 hg222 (Nat.ne_of_lt lt221_x3)
             have r222_z3 := gb_rowIs r221_z3 hg222 (Nat.ne_of_lt lt221_z3)
             have r222_t14 := gb_rowIs r221_t14 hg222 (Nat.ne_of_lt lt221_t14)
             have r222_t15 := gb_rowIs r221_t15 hg222 (Nat.ne_of_lt lt221_t15)
             have r222_t16 := gb_rowIs r221_t16 hg222 (Nat.ne_of_lt lt221_t16)
             have r222_t17 := gb_rowIs r221_t17 hg222 (Nat.ne_of_lt lt221_t17)
             have r222_t18 := gb_rowIs r221_t18 hg222 (Nat.ne_of_lt lt221_t18)
             have B222 := B221.grown hg222 (HGS.out _ B221) (by intro k hk; cases hk; exact g221)
             clear r221_t19 r221_k r221_u r221_x2 r221_z2 r221_x3 r221_z3 r221_t14 r221_t15 r221_t16 r221_t17 r221_t18 B221 hr222 hg222 hs222)
          | (refine wpList_load_arr rfl 47 (.tmp 9) rfl 16 arrFe r222_x3 rfl (by omega) ?_; simp only [Nat.zero_add])
          | (refine wpList_load_arr rfl 47 (.tmp 10) rfl 16 arrFe r222_z3 rfl (by omega) ?_; simp only [Nat.zero_add])
          | (refine wpList_store_arr rfl 47 (.tmp 20) (.tmp 73) rfl 16 arrFe r224_t20 rfl rfl (by omega) (fun _ _ => rfl) ?_; intro x225 hr225 hg225 hs225
             have r225_t20 : x225.rowIs (w223.heap.size) 47 16 (feF d) := hr225.congr fun i hi => by unfold putN; rw [if_pos (by omega), Nat.sub_zero]
             have r225_k := gb_rowIs r224_k hg225 (Nat.ne_of_lt lt224_k)
             have r225_u := gb_rowIs r224_u hg225 (Nat.ne_of_lt lt224_u)
             have r225_x2 := gb_rowIs r224_x2 hg225 (Nat.ne_of_lt lt224_x2)
             have r225_z2 := gb_rowIs r224_z2 hg225 (Nat.ne_of_lt lt224_z2)
             have r225_x3 := gb_rowIs r224_x3 hg225 (Nat.ne_of_lt lt224_x3)
             have r225_z3 := gb_rowIs r224_z3 hg225 (Nat.ne_of_lt lt224_z3)
             have r225_t14 := gb_rowIs r224_t14 hg225 (Nat.ne_of_lt lt224_t14)
             have r225_t15 := gb_rowIs r224_t15 hg225 (Nat.ne_of_lt lt224_t15)
             have r225_t16 := gb_rowIs r224_t16 hg225 (Nat.ne_of_lt lt224_t16)
             have r225_t17 := gb_rowIs r224_t17 hg225 (Nat.ne_of_lt lt224_t17)
             have r225_t18 := gb_rowIs r224_t18 hg225 (Nat.ne_of_lt lt224_t18)
             have r225_t19 := gb_rowIs r224_t19 hg225 (Nat.ne_of_lt lt224_t19)
             have B225 := B224.grown hg225 (HGS.out _ B224) (by intro k hk; cases hk; exact g224)
             clear r224_t20 r224_k r224_u r224_x2 r224_z2 r224_x3 r224_z3 r224_t14 r224_t15 r224_t16 r224_t17 r224_t18 r224_t19 B224 hr225 hg225 hs225)
          | (refine wpList_load_arr rfl 47 (.tmp 20) rfl 16 arrFe r225_t20 rfl (by omega) ?_; simp only [Nat.zero_add])
          | (refine wpList_load_arr rfl 47 (.tmp 14) rfl 16 arrFe r225_t14 rfl (by omega) ?_; simp only [Nat.zero_add])
          | (refine wpList_store_arr rfl 47 (.tmp 21) (.tmp 76) rfl 16 arrFe r227_t21 rfl rfl (by omega) (fun _ _ => rfl) ?_; intro x228 hr228 hg228 hs228
             have r228_t21 : x228.rowIs (w226.heap.size) 47 16 (feF da) := hr228.congr fun i hi => by unfold putN; rw [if_pos (by omega), Nat.sub_zero]
             have r228_k := gb_rowIs r227_k hg228 (Nat.ne_of_lt lt227_k)
             have r228_u := gb_rowIs r227_u hg228 (Nat.ne_of_lt lt227_u)
             have r228_x2 := gb_rowIs r227_x2 hg228 (Nat.ne_of_lt lt227_x2)
             have r228_z2 := gb_rowIs r227_z2 hg228 (Nat.ne_of_lt lt227_z2)
             have r228_x3 := gb_rowIs r227_x3 hg228 (Nat.ne_of_lt lt227_x3)
             have r228_z3 := gb_rowIs r227_z3 hg228 (Nat.ne_of_lt lt227_z3)
             have r228_t14 := gb_rowIs r227_t14 hg228 (Nat.ne_of_lt lt227_t14)
             have r228_t15 := gb_rowIs r227_t15 hg228 (Nat.ne_of_lt lt227_t15)
             have r228_t16 := gb_rowIs r227_t16 hg228 (Nat.ne_of_lt lt227_t16)
             have r228_t17 := gb_rowIs r227_t17 hg228 (Nat.ne_of_lt lt227_t17)
             have r228_t18 := gb_rowIs r227_t18 hg228 (Nat.ne_of_lt lt227_t18)
             have r228_t19 := gb_rowIs r227_t19 hg228 (Nat.ne_of_lt lt227_t19)
             have r228_t20 := gb_rowIs r227_t20 hg228 (Nat.ne_of_lt lt227_t20)
             have B228 := B227.grown hg228 (HGS.out _ B227) (by intro k hk; cases hk; exact g227)
             clear r227_t21 r227_k r227_u r227_x2 r227_z2 r227_x3 r227_z3 r227_t14 r227_t15 r227_t16 r227_t17 r227_t18 r227_t19 r227_t20 B227 hr228 hg228 hs228)
          | (refine wpList_load_arr rfl 47 (.tmp 19) rfl 16 arrFe r228_t19 rfl (by omega) ?_; simp only [Nat.zero_add])
          | (refine wpList_load_arr rfl 47 (.tmp 16) rfl 16 arrFe r228_t16 rfl (by omega) ?_; simp only [Nat.zero_add])
          | (refine wpList_store_arr rfl 47 (.tmp 22) (.tmp 79) rfl 16 arrFe r230_t22 rfl rfl (by omega) (fun _ _ => rfl) ?_; intro x231 hr231 hg231 hs231
             have r231_t22 : x231.rowIs (w229.heap.size) 47 16 (feF cb) := hr231.congr fun i hi => by unfold putN; rw [if_pos (by omega), Nat.sub_zero]
             have r231_k := gb_rowIs r230_k hg231 (Nat.ne_of_lt lt230_k)
             have r231_u := gb_rowIs r230_u hg231 (Nat.ne_of_lt lt230_u)
             have r231_x2 := gb_rowIs r230_x2 hg231 (Nat.ne_of_lt lt230_x2)
             have r231_z2 := gb_rowIs r230_z2 hg231 (Nat.ne_of_lt lt230_z2)
             have r231_x3 := gb_rowIs r230_x3 hg231 (Nat.ne_of_lt lt230_x3)
             have r231_z3 := gb_rowIs r230_z3 hg231 (Nat.ne_of_lt lt230_z3)
             have r231_t14 := gb_rowIs r230_t14 hg231 (Nat.ne_of_lt lt230_t14)
             have r231_t15 := gb_rowIs r230_t15 hg231 (Nat.ne_of_lt lt230_t15)
             have r231_t16 := gb_rowIs r230_t16 hg231 (Nat.ne_of_lt lt230_t16)
             have r231_t17 := gb_rowIs r230_t17 hg231 (Nat.ne_of_lt lt230_t17)
             have r231_t18 := gb_rowIs r230_t18 hg231 (Nat.ne_of_lt lt230_t18)
             have r231_t19 := gb_rowIs r230_t19 hg231 (Nat.ne_of_lt lt230_t19)
             have r231_t20 := gb_rowIs r230_t20 hg231 (Nat.ne_of_lt lt230_t20)
             have r231_t21 := gb_rowIs r230_t21 hg231 (Nat.ne_of_lt lt230_t21)
             have B231 := B230.grown hg231 (HGS.out _ B230) (by intro k hk; cases hk; exact g230)
             clear r230_t22 r230_k r230_u r230_x2 r230_z2 r230_x3 r230_z3 r230_t14 r230_t15 r230_t16 r230_t17 r230_t18 r230_t19 r230_t20 r230_t21 B230 hr231 hg231 hs231)
          | (refine wpList_load_arr rfl 47 (.tmp 21) rfl 16 arrFe r231_t21 rfl (by omega) ?_; simp only [Nat.zero_add])
          | (refine wpList_load_arr rfl 47 (.tmp 22) rfl 16 arrFe r231_t22 rfl (by omega) ?_; simp only [Nat.zero_add])
          | (refine wpList_store_arr rfl 47 (.tmp 9) (.tmp 82) rfl 16 arrFe r232_x3 rfl rfl (by omega) (fun _ _ => rfl) ?_; intro x233 hr233 hg233 hs233
             have r233_x3 : x233.rowIs (g9) 47 16 (feF s) := hr233.congr fun i hi => by unfold putN; rw [if_pos (by omega), Nat.sub_zero]
             have r233_k := gb_rowIs r232_k hg233 n_k_x3
             have r233_u := gb_rowIs r232_u hg233 n_u_x3
             have r233_x2 := gb_rowIs r232_x2 hg233 n_x2_x3
             have r233_z2 := gb_rowIs r232_z2 hg233 n_z2_x3
             have r233_z3 := gb_rowIs r232_z3 hg233 (Ne.symm n_x3_z3)
             have r233_t14 := gb_rowIs r232_t14 hg233 (Ne.symm (Nat.ne_of_lt lt206_x3))
             have r233_t15 := gb_rowIs r232_t15 hg233 (Ne.symm (Nat.ne_of_lt lt209_x3))
             have r233_t16 := gb_rowIs r232_t16 hg233 (Ne.symm (Nat.ne_of_lt lt212_x3))
             have r233_t17 := gb_rowIs r232_t17 hg233 (Ne.symm (Nat.ne_of_lt lt215_x3))
             have r233_t18 := gb_rowIs r232_t18 hg233 (Ne.symm (Nat.ne_of_lt lt218_x3))
             have r233_t19 := gb_rowIs r232_t19 hg233 (Ne.symm (Nat.ne_of_lt lt221_x3))
             have r233_t20 := gb_rowIs r232_t20 hg233 (Ne.symm (Nat.ne_of_lt lt224_x3))
             have r233_t21 := gb_rowIs r232_t21 hg233 (Ne.symm (Nat.ne_of_lt lt227_x3))
             have r233_t22 := gb_rowIs r232_t22 hg233 (Ne.symm (Nat.ne_of_lt lt230_x3))
             have B233 := B232.grown hg233 (HGS.out _ B232) (by intro k hk; cases hk; exact l_x3)
             clear r232_x3 r232_k r232_u r232_x2 r232_z2 r232_z3 r232_t14 r232_t15 r232_t16 r232_t17 r232_t18 r232_t19 r232_t20 r232_t21 r232_t22 B232 hr233 hg233 hs233)
          | (refine wpList_load_arr rfl 47 (.tmp 9) rfl 16 arrFe r233_x3 rfl (by omega) ?_; simp only [Nat.zero_add])
          | (refine wpList_store_arr rfl 47 (.tmp 9) (.tmp 85) rfl 16 arrFe r234_x3 rfl rfl (by omega) (fun _ _ => rfl) ?_; intro x235 hr235 hg235 hs235
             have r235_x3 : x235.rowIs (g9) 47 16 (feF n3) := hr235.congr fun i hi => by unfold putN; rw [if_pos (by omega), Nat.sub_zero]
             have r235_k := gb_rowIs r234_k hg235 n_k_x3
             have r235_u := gb_rowIs r234_u hg235 n_u_x3
             have r235_x2 := gb_rowIs r234_x2 hg235 n_x2_x3
             have r235_z2 := gb_rowIs r234_z2 hg235 n_z2_x3
             have r235_z3 := gb_rowIs r234_z3 hg235 (Ne.symm n_x3_z3)
             have r235_t14 := gb_rowIs r234_t14 hg235 (Ne.symm (Nat.ne_of_lt lt206_x3))
             have r235_t15 := gb_rowIs r234_t15 hg235 (Ne.symm (Nat.ne_of_lt lt209_x3))
             have r235_t16 := gb_rowIs r234_t16 hg235 (Ne.symm (Nat.ne_of_lt lt212_x3))
             have r235_t17 := gb_rowIs r234_t17 hg235 (Ne.symm (Nat.ne_of_lt lt215_x3))
             have r235_t18 := gb_rowIs r234_t18 hg235 (Ne.symm (Nat.ne_of_lt lt218_x3))
             have r235_t19 := gb_rowIs r234_t19 hg235 (Ne.symm (Nat.ne_of_lt lt221_x3))
             have r235_t20 := gb_rowIs r234_t20 hg235 (Ne.symm (Nat.ne_of_lt lt224_x3))
             have r235_t21 := gb_rowIs r234_t21 hg235 (Ne.symm (Nat.ne_of_lt lt227_x3))
             have r235_t22 := gb_rowIs r234_t22 hg235 (Ne.symm (Nat.ne_of_lt lt230_x3))
             have B235 := B234.grown hg235 (HGS.out _ B234) (by intro k hk; cases hk; exact l_x3)
             clear r234_x3 r234_k r234_u r234_x2 r234_z2 r234_z3 r234_t14 r234_t15 r234_t16 r234_t17 r234_t18 r234_t19 r234_t20 r234_t21 r234_t22 B234 hr235 hg235 hs235)
          | (refine wpList_load_arr rfl 47 (.tmp 21) rfl 16 arrFe r235_t21 rfl (by omega) ?_; simp only [Nat.zero_add])
          | (refine wpList_load_arr rfl 47 (.tmp 22) rfl 16 arrFe r235_t22 rfl (by omega) ?_; simp only [Nat.zero_add])
          | (refine wpList_store_arr rfl 47 (.tmp 10) (.tmp 88) rfl 16 arrFe r236_z3 rfl rfl (by omega) (fun _ _ => rfl) ?_; intro x237 hr237 hg237 hs237
             have r237_z3 : x237.rowIs (g10) 47 16 (feF q) := hr237.congr fun i hi => by unfold putN; rw [if_pos (by omega), Nat.sub_zero]
             have r237_k := gb_rowIs r236_k hg237 n_k_z3
             have r237_u := gb_rowIs r236_u hg237 n_u_z3
             have r237_x2 := gb_rowIs r236_x2 hg237 n_x2_z3
             have r237_z2 := gb_rowIs r236_z2 hg237 n_z2_z3
             have r237_x3 := gb_rowIs r236_x3 hg237 n_x3_z3
             have r237_t14 := gb_rowIs r236_t14 hg237 (Ne.symm (Nat.ne_of_lt lt206_z3))
             have r237_t15 := gb_rowIs r236_t15 hg237 (Ne.symm (Nat.ne_of_lt lt209_z3))
             have r237_t16 := gb_rowIs r236_t16 hg237 (Ne.symm (Nat.ne_of_lt lt212_z3))
             have r237_t17 := gb_rowIs r236_t17 hg237 (Ne.symm (Nat.ne_of_lt lt215_z3))
             have r237_t18 := gb_rowIs r236_t18 hg237 (Ne.symm (Nat.ne_of_lt lt218_z3))
             have r237_t19 := gb_rowIs r236_t19 hg237 (Ne.symm (Nat.ne_of_lt lt221_z3))
             have r237_t20 := gb_rowIs r236_t20 hg237 (Ne.symm (Nat.ne_of_lt lt224_z3))
             have r237_t21 := gb_rowIs r236_t21 hg237 (Ne.symm (Nat.ne_of_lt lt227_z3))
             have r237_t22 := gb_rowIs r236_t22 hg237 (Ne.symm (Nat.ne_of_lt lt230_z3))
             have B237 := B236.grown hg237 (HGS.out _ B236) (by intro k hk; cases hk; exact l_z3)
             clear r236_z3 r236_k r236_u r236_x2 r236_z2 r236_x3 r236_t14 r236_t15 r236_t16 r236_t17 r236_t18 r236_t19 r236_t20 r236_t21 r236_t22 B236 hr237 hg237 hs237))
        have B := B237.drew
        have rk := World.rowIs.drew r237_k
        have ru := World.rowIs.drew r237_u
        have rx2 := World.rowIs.drew r237_x2
        have rz2 := World.rowIs.drew r237_z2
        have rx3 := World.rowIs.drew r237_x3
        have rz3 := World.rowIs.drew r237_z3
        have rt14 := World.rowIs.drew r237_t14
        have rt15 := World.rowIs.drew r237_t15
        have rt16 := World.rowIs.drew r237_t16
        have rt17 := World.rowIs.drew r237_t17
        have rt18 := World.rowIs.drew r237_t18
        have rt19 := World.rowIs.drew r237_t19
        have rt20 := World.rowIs.drew r237_t20
        have rt21 := World.rowIs.drew r237_t21
        have rt22 := World.rowIs.drew r237_t22
        clear B237 r237_k r237_u r237_x2 r237_z2 r237_x3 r237_z3 r237_t14 r237_t15 r237_t16 r237_t17 r237_t18 r237_t19 r237_t20 r237_t21 r237_t22
        refine wp_region_lins [(0, some [4, 5]), (1, some [3, 5]), (2, some [3, 5]), (3, none), (4, none), (5, none)] (fun c w' => c = 5 → w'.rowIs gu 47 16 (feF U) ∧ w'.rowIs g10 47 16 (feF q)) (by kernel_rfl) (by kernel_rfl) (by decide) (by kernel_rfl) (fun d _ _ _ _ h => by cases d <;> exact h) (fun c hc _ => ⟨ru, rz3⟩) ?_
        refine lins_read 89 (Op.load 47 (Operand.tmp 6)) 47 (.agg (arrOf 16 fun i => feF U (0 + i))) rfl rfl rfl rfl rfl (fun w0 hw0 => by exact exec_load_arr _ _ _ _ rfl arrFe ((hw0 5 (by simp) rfl).1) (by omega)) ?_
        simp only [Act.put, List.setIfInBounds_toArray, List.set_cons_zero, List.set_cons_succ, Nat.zero_add]
        refine lins_read 90 (Op.load 47 (Operand.tmp 10)) 47 (.agg (arrOf 16 fun i => feF q (0 + i))) rfl rfl rfl rfl rfl (fun w0 hw0 => by exact exec_load_arr _ _ _ _ rfl arrFe ((hw0 5 (by simp) rfl).2) (by omega)) ?_
        simp only [Act.put, List.setIfInBounds_toArray, List.set_cons_zero, List.set_cons_succ, Nat.zero_add]
        refine lins_read 91 (Op.load 47 (Operand.tmp 10)) 47 (.agg (arrOf 16 fun i => feF q (0 + i))) rfl rfl rfl rfl rfl (fun w0 hw0 => by exact exec_load_arr _ _ _ _ rfl arrFe ((hw0 5 (by simp) rfl).2) (by omega)) ?_
        simp only [Act.put, List.setIfInBounds_toArray, List.set_cons_zero, List.set_cons_succ, Nat.zero_add]
        refine lins_fn (some 92) 27 #[Operand.tmp 90, Operand.tmp 91] #[47, 47] _ (CQ2.out _) rfl rfl rfl rfl Try.func27 (by kernel_rfl) (by kernel_rfl) (by go_simp) ?_
        rintro e w92 ⟨rfl, b92⟩
        replace B := B.trans (b92.mono (HGS.out _ B))
        replace rk := World.rowIs.of_block rk (b92.block _ (World.rowIs.lt rk))
        replace ru := World.rowIs.of_block ru (b92.block _ (World.rowIs.lt ru))
        replace rx2 := World.rowIs.of_block rx2 (b92.block _ (World.rowIs.lt rx2))
        replace rz2 := World.rowIs.of_block rz2 (b92.block _ (World.rowIs.lt rz2))
        replace rx3 := World.rowIs.of_block rx3 (b92.block _ (World.rowIs.lt rx3))
        replace rz3 := World.rowIs.of_block rz3 (b92.block _ (World.rowIs.lt rz3))
        replace rt14 := World.rowIs.of_block rt14 (b92.block _ (World.rowIs.lt rt14))
        replace rt15 := World.rowIs.of_block rt15 (b92.block _ (World.rowIs.lt rt15))
        replace rt16 := World.rowIs.of_block rt16 (b92.block _ (World.rowIs.lt rt16))
        replace rt17 := World.rowIs.of_block rt17 (b92.block _ (World.rowIs.lt rt17))
        replace rt18 := World.rowIs.of_block rt18 (b92.block _ (World.rowIs.lt rt18))
        replace rt19 := World.rowIs.of_block rt19 (b92.block _ (World.rowIs.lt rt19))
        replace rt20 := World.rowIs.of_block rt20 (b92.block _ (World.rowIs.lt rt20))
        replace rt21 := World.rowIs.of_block rt21 (b92.block _ (World.rowIs.lt rt21))
        replace rt22 := World.rowIs.of_block rt22 (b92.block _ (World.rowIs.lt rt22))
        refine ⟨_, rfl, fun c w' => c = 5 → w'.rowIs gu 47 16 (feF U) ∧ w'.rowIs g10 47 16 (feF q), fun c hc => ⟨fun _ => ⟨ru, rz3⟩, fun w7 h => h⟩, ?_⟩
        simp only [Act.put, List.setIfInBounds_toArray, List.set_cons_zero, List.set_cons_succ, Nat.zero_add]
        refine lins_fn (some 93) 27 #[Operand.tmp 89, Operand.tmp 92] #[47, 47] _ (CM3.out _) rfl rfl rfl rfl Try.func27 (by kernel_rfl) (by kernel_rfl) (by go_simp) ?_
        rintro e w93 ⟨rfl, b93⟩
        replace B := B.trans (b93.mono (HGS.out _ B))
        replace rk := World.rowIs.of_block rk (b93.block _ (World.rowIs.lt rk))
        replace ru := World.rowIs.of_block ru (b93.block _ (World.rowIs.lt ru))
        replace rx2 := World.rowIs.of_block rx2 (b93.block _ (World.rowIs.lt rx2))
        replace rz2 := World.rowIs.of_block rz2 (b93.block _ (World.rowIs.lt rz2))
        replace rx3 := World.rowIs.of_block rx3 (b93.block _ (World.rowIs.lt rx3))
        replace rz3 := World.rowIs.of_block rz3 (b93.block _ (World.rowIs.lt rz3))
        replace rt14 := World.rowIs.of_block rt14 (b93.block _ (World.rowIs.lt rt14))
        replace rt15 := World.rowIs.of_block rt15 (b93.block _ (World.rowIs.lt rt15))
        replace rt16 := World.rowIs.of_block rt16 (b93.block _ (World.rowIs.lt rt16))
        replace rt17 := World.rowIs.of_block rt17 (b93.block _ (World.rowIs.lt rt17))
        replace rt18 := World.rowIs.of_block rt18 (b93.block _ (World.rowIs.lt rt18))
        replace rt19 := World.rowIs.of_block rt19 (b93.block _ (World.rowIs.lt rt19))
        replace rt20 := World.rowIs.of_block rt20 (b93.block _ (World.rowIs.lt rt20))
        replace rt21 := World.rowIs.of_block rt21 (b93.block _ (World.rowIs.lt rt21))
        replace rt22 := World.rowIs.of_block rt22 (b93.block _ (World.rowIs.lt rt22))
        refine ⟨_, rfl, fun c w' => c = 5 → w'.rowIs gu 47 16 (feF U) ∧ w'.rowIs g10 47 16 (feF q), fun c hc => ⟨fun _ => ⟨ru, rz3⟩, fun w7 h => h⟩, ?_⟩
        simp only [Act.put, List.setIfInBounds_toArray, List.set_cons_zero, List.set_cons_succ, Nat.zero_add]
        refine lins_store_arr (k := 16) (off := 0) 47 (.tmp 10) (.tmp 93) rfl rfl rfl rfl rz3 rfl rfl arrFe (by omega) (fun _ _ => rfl) ?_
        intro x94 hr94 hg94 hs94
        replace rz3 : x94.rowIs g10 47 16 (feF m3) := hr94.congr fun i hi => by unfold putN; rw [if_pos (by omega), Nat.sub_zero]
        replace rk := gb_rowIs rk hg94 n_k_z3
        replace ru := gb_rowIs ru hg94 n_u_z3
        replace rx2 := gb_rowIs rx2 hg94 n_x2_z3
        replace rz2 := gb_rowIs rz2 hg94 n_z2_z3
        replace rx3 := gb_rowIs rx3 hg94 n_x3_z3
        replace rt14 := gb_rowIs rt14 hg94 (Ne.symm (Nat.ne_of_lt lt206_z3))
        replace rt15 := gb_rowIs rt15 hg94 (Ne.symm (Nat.ne_of_lt lt209_z3))
        replace rt16 := gb_rowIs rt16 hg94 (Ne.symm (Nat.ne_of_lt lt212_z3))
        replace rt17 := gb_rowIs rt17 hg94 (Ne.symm (Nat.ne_of_lt lt215_z3))
        replace rt18 := gb_rowIs rt18 hg94 (Ne.symm (Nat.ne_of_lt lt218_z3))
        replace rt19 := gb_rowIs rt19 hg94 (Ne.symm (Nat.ne_of_lt lt221_z3))
        replace rt20 := gb_rowIs rt20 hg94 (Ne.symm (Nat.ne_of_lt lt224_z3))
        replace rt21 := gb_rowIs rt21 hg94 (Ne.symm (Nat.ne_of_lt lt227_z3))
        replace rt22 := gb_rowIs rt22 hg94 (Ne.symm (Nat.ne_of_lt lt230_z3))
        replace B := B.grown hg94 (HGS.out _ B) (by intro k hk; cases hk; exact l_z3)
        clear hr94 hg94 hs94
        refine ⟨fun _ _ => True, fun c hc => (by cases hc), ?_⟩
        try simp only [Act.put, List.setIfInBounds_toArray, List.set_cons_zero, List.set_cons_succ, Nat.zero_add]
        refine lins_end ?_
        go_wp2_with (first
          | (refine wpList_load_arr rfl 47 (.tmp 15) rfl 16 arrFe rt15 rfl (by omega) ?_; simp only [Nat.zero_add])
          | (refine wpList_load_arr rfl 47 (.tmp 17) rfl 16 arrFe rt17 rfl (by omega) ?_; simp only [Nat.zero_add])
          | (go_at_call 27; have hgo := B; clear hgo; refine (CN2.out _).mono ?_; rintro e w301 ⟨rfl, hb301⟩
             have r301_k := World.rowIs.of_block rk (hb301.block _ (World.rowIs.lt rk))
             have r301_u := World.rowIs.of_block ru (hb301.block _ (World.rowIs.lt ru))
             have r301_x2 := World.rowIs.of_block rx2 (hb301.block _ (World.rowIs.lt rx2))
             have r301_z2 := World.rowIs.of_block rz2 (hb301.block _ (World.rowIs.lt rz2))
             have r301_x3 := World.rowIs.of_block rx3 (hb301.block _ (World.rowIs.lt rx3))
             have r301_z3 := World.rowIs.of_block rz3 (hb301.block _ (World.rowIs.lt rz3))
             have r301_t14 := World.rowIs.of_block rt14 (hb301.block _ (World.rowIs.lt rt14))
             have r301_t15 := World.rowIs.of_block rt15 (hb301.block _ (World.rowIs.lt rt15))
             have r301_t16 := World.rowIs.of_block rt16 (hb301.block _ (World.rowIs.lt rt16))
             have r301_t17 := World.rowIs.of_block rt17 (hb301.block _ (World.rowIs.lt rt17))
             have r301_t18 := World.rowIs.of_block rt18 (hb301.block _ (World.rowIs.lt rt18))
             have r301_t19 := World.rowIs.of_block rt19 (hb301.block _ (World.rowIs.lt rt19))
             have r301_t20 := World.rowIs.of_block rt20 (hb301.block _ (World.rowIs.lt rt20))
             have r301_t21 := World.rowIs.of_block rt21 (hb301.block _ (World.rowIs.lt rt21))
             have r301_t22 := World.rowIs.of_block rt22 (hb301.block _ (World.rowIs.lt rt22))
             have B301 := B.trans (hb301.mono (HGS.out _ B))
             clear rk ru rx2 rz2 rx3 rz3 rt14 rt15 rt16 rt17 rt18 rt19 rt20 rt21 rt22 B hb301)
          | (refine wpList_store_arr rfl 47 (.tmp 7) (.tmp 96) rfl 16 arrFe r301_x2 rfl rfl (by omega) (fun _ _ => rfl) ?_; intro x302 hr302 hg302 hs302
             have r302_x2 : x302.rowIs (g7) 47 16 (feF n2) := hr302.congr fun i hi => by unfold putN; rw [if_pos (by omega), Nat.sub_zero]
             have r302_k := gb_rowIs r301_k hg302 n_k_x2
             have r302_u := gb_rowIs r301_u hg302 n_u_x2
             have r302_z2 := gb_rowIs r301_z2 hg302 (Ne.symm n_x2_z2)
             have r302_x3 := gb_rowIs r301_x3 hg302 (Ne.symm n_x2_x3)
             have r302_z3 := gb_rowIs r301_z3 hg302 (Ne.symm n_x2_z3)
             have r302_t14 := gb_rowIs r301_t14 hg302 (Ne.symm (Nat.ne_of_lt lt206_x2))
             have r302_t15 := gb_rowIs r301_t15 hg302 (Ne.symm (Nat.ne_of_lt lt209_x2))
             have r302_t16 := gb_rowIs r301_t16 hg302 (Ne.symm (Nat.ne_of_lt lt212_x2))
             have r302_t17 := gb_rowIs r301_t17 hg302 (Ne.symm (Nat.ne_of_lt lt215_x2))
             have r302_t18 := gb_rowIs r301_t18 hg302 (Ne.symm (Nat.ne_of_lt lt218_x2))
             have r302_t19 := gb_rowIs r301_t19 hg302 (Ne.symm (Nat.ne_of_lt lt221_x2))
             have r302_t20 := gb_rowIs r301_t20 hg302 (Ne.symm (Nat.ne_of_lt lt224_x2))
             have r302_t21 := gb_rowIs r301_t21 hg302 (Ne.symm (Nat.ne_of_lt lt227_x2))
             have r302_t22 := gb_rowIs r301_t22 hg302 (Ne.symm (Nat.ne_of_lt lt230_x2))
             have B302 := B301.grown hg302 (HGS.out _ B301) (by intro k hk; cases hk; exact l_x2)
             clear r301_x2 r301_k r301_u r301_z2 r301_x3 r301_z3 r301_t14 r301_t15 r301_t16 r301_t17 r301_t18 r301_t19 r301_t20 r301_t21 r301_t22 B301 hr302 hg302 hs302))
        have B := B302.drew
        have rk := World.rowIs.drew r302_k
        have ru := World.rowIs.drew r302_u
        have rx2 := World.rowIs.drew r302_x2
        have rz2 := World.rowIs.drew r302_z2
        have rx3 := World.rowIs.drew r302_x3
        have rz3 := World.rowIs.drew r302_z3
        have rt14 := World.rowIs.drew r302_t14
        have rt15 := World.rowIs.drew r302_t15
        have rt16 := World.rowIs.drew r302_t16
        have rt17 := World.rowIs.drew r302_t17
        have rt18 := World.rowIs.drew r302_t18
        have rt19 := World.rowIs.drew r302_t19
        have rt20 := World.rowIs.drew r302_t20
        have rt21 := World.rowIs.drew r302_t21
        have rt22 := World.rowIs.drew r302_t22
        clear B302 r302_k r302_u r302_x2 r302_z2 r302_x3 r302_z3 r302_t14 r302_t15 r302_t16 r302_t17 r302_t18 r302_t19 r302_t20 r302_t21 r302_t22
        refine wp_region_lins [(0, some [6, 7]), (1, some [5, 7]), (3, some [4, 7]), (2, none), (4, none), (5, none), (6, none), (7, none)] (fun c w' => c = 7 → w'.rowIs (w217.heap.size) 47 16 (feF e) ∧ w'.rowIs (w208.heap.size) 47 16 (feF aa)) (by kernel_rfl) (by kernel_rfl) (by decide) (by kernel_rfl) (fun d _ _ _ _ h => by cases d <;> exact h) (fun c hc _ => ⟨rt18, rt15⟩) ?_
        refine lins_read 97 (Op.load 47 (Operand.tmp 18)) 47 (.agg (arrOf 16 fun i => feF e (0 + i))) rfl rfl rfl rfl rfl (fun w0 hw0 => by exact exec_load_arr _ _ _ _ rfl arrFe ((hw0 7 (by simp) rfl).1) (by omega)) ?_
        simp only [Act.put, List.setIfInBounds_toArray, List.set_cons_zero, List.set_cons_succ, Nat.zero_add]
        refine lins_read 98 (Op.load 47 (Operand.tmp 15)) 47 (.agg (arrOf 16 fun i => feF aa (0 + i))) rfl rfl rfl rfl rfl (fun w0 hw0 => by exact exec_load_arr _ _ _ _ rfl arrFe ((hw0 7 (by simp) rfl).2) (by omega)) ?_
        simp only [Act.put, List.setIfInBounds_toArray, List.set_cons_zero, List.set_cons_succ, Nat.zero_add]
        refine lins_read 100 (Op.load 47 (Operand.tmp 18)) 47 (.agg (arrOf 16 fun i => feF e (0 + i))) rfl rfl rfl rfl rfl (fun w0 hw0 => by exact exec_load_arr _ _ _ _ rfl arrFe ((hw0 7 (by simp) rfl).1) (by omega)) ?_
        simp only [Act.put, List.setIfInBounds_toArray, List.set_cons_zero, List.set_cons_succ, Nat.zero_add]
        refine lins_fn (some 99) 25 #[Operand.const (Value.int IntKind.u64 121665)] #[39] _ (refSmall_any 121665 _ (by decide)) rfl rfl rfl rfl Try.func25 (by kernel_rfl) (by kernel_rfl) (by go_simp) ?_
        rintro e w99 ⟨rfl, b99⟩
        replace B := B.trans (b99.mono (HGS.out _ B))
        replace rk := World.rowIs.of_block rk (b99.block _ (World.rowIs.lt rk))
        replace ru := World.rowIs.of_block ru (b99.block _ (World.rowIs.lt ru))
        replace rx2 := World.rowIs.of_block rx2 (b99.block _ (World.rowIs.lt rx2))
        replace rz2 := World.rowIs.of_block rz2 (b99.block _ (World.rowIs.lt rz2))
        replace rx3 := World.rowIs.of_block rx3 (b99.block _ (World.rowIs.lt rx3))
        replace rz3 := World.rowIs.of_block rz3 (b99.block _ (World.rowIs.lt rz3))
        replace rt14 := World.rowIs.of_block rt14 (b99.block _ (World.rowIs.lt rt14))
        replace rt15 := World.rowIs.of_block rt15 (b99.block _ (World.rowIs.lt rt15))
        replace rt16 := World.rowIs.of_block rt16 (b99.block _ (World.rowIs.lt rt16))
        replace rt17 := World.rowIs.of_block rt17 (b99.block _ (World.rowIs.lt rt17))
        replace rt18 := World.rowIs.of_block rt18 (b99.block _ (World.rowIs.lt rt18))
        replace rt19 := World.rowIs.of_block rt19 (b99.block _ (World.rowIs.lt rt19))
        replace rt20 := World.rowIs.of_block rt20 (b99.block _ (World.rowIs.lt rt20))
        replace rt21 := World.rowIs.of_block rt21 (b99.block _ (World.rowIs.lt rt21))
        replace rt22 := World.rowIs.of_block rt22 (b99.block _ (World.rowIs.lt rt22))
        refine ⟨_, rfl, fun c w' => c = 7 → w'.rowIs (w217.heap.size) 47 16 (feF e) ∧ w'.rowIs (w208.heap.size) 47 16 (feF aa), fun c hc => ⟨fun _ => ⟨rt18, rt15⟩, fun w7 h => h⟩, ?_⟩
        simp only [Act.put, List.setIfInBounds_toArray, List.set_cons_zero, List.set_cons_succ, Nat.zero_add]
        refine lins_fn (some 101) 27 #[Operand.tmp 99, Operand.tmp 100] #[47, 47] _ (CF.out _) rfl rfl rfl rfl Try.func27 (by kernel_rfl) (by kernel_rfl) (by go_simp) ?_
        rintro e w101 ⟨rfl, b101⟩
        replace B := B.trans (b101.mono (HGS.out _ B))
        replace rk := World.rowIs.of_block rk (b101.block _ (World.rowIs.lt rk))
        replace ru := World.rowIs.of_block ru (b101.block _ (World.rowIs.lt ru))
        replace rx2 := World.rowIs.of_block rx2 (b101.block _ (World.rowIs.lt rx2))
        replace rz2 := World.rowIs.of_block rz2 (b101.block _ (World.rowIs.lt rz2))
        replace rx3 := World.rowIs.of_block rx3 (b101.block _ (World.rowIs.lt rx3))
        replace rz3 := World.rowIs.of_block rz3 (b101.block _ (World.rowIs.lt rz3))
        replace rt14 := World.rowIs.of_block rt14 (b101.block _ (World.rowIs.lt rt14))
        replace rt15 := World.rowIs.of_block rt15 (b101.block _ (World.rowIs.lt rt15))
        replace rt16 := World.rowIs.of_block rt16 (b101.block _ (World.rowIs.lt rt16))
        replace rt17 := World.rowIs.of_block rt17 (b101.block _ (World.rowIs.lt rt17))
        replace rt18 := World.rowIs.of_block rt18 (b101.block _ (World.rowIs.lt rt18))
        replace rt19 := World.rowIs.of_block rt19 (b101.block _ (World.rowIs.lt rt19))
        replace rt20 := World.rowIs.of_block rt20 (b101.block _ (World.rowIs.lt rt20))
        replace rt21 := World.rowIs.of_block rt21 (b101.block _ (World.rowIs.lt rt21))
        replace rt22 := World.rowIs.of_block rt22 (b101.block _ (World.rowIs.lt rt22))
        refine ⟨_, rfl, fun c w' => c = 7 → w'.rowIs (w217.heap.size) 47 16 (feF e) ∧ w'.rowIs (w208.heap.size) 47 16 (feF aa), fun c hc => ⟨fun _ => ⟨rt18, rt15⟩, fun w7 h => h⟩, ?_⟩
        simp only [Act.put, List.setIfInBounds_toArray, List.set_cons_zero, List.set_cons_succ, Nat.zero_add]
        refine lins_fn (some 102) 26 #[Operand.tmp 98, Operand.tmp 101] #[47, 47] _ (CH.out _) rfl rfl rfl rfl Try.func26 (by kernel_rfl) (by kernel_rfl) (by go_simp) ?_
        rintro e w102 ⟨rfl, b102⟩
        replace B := B.trans (b102.mono (HGS.out _ B))
        replace rk := World.rowIs.of_block rk (b102.block _ (World.rowIs.lt rk))
        replace ru := World.rowIs.of_block ru (b102.block _ (World.rowIs.lt ru))
        replace rx2 := World.rowIs.of_block rx2 (b102.block _ (World.rowIs.lt rx2))
        replace rz2 := World.rowIs.of_block rz2 (b102.block _ (World.rowIs.lt rz2))
        replace rx3 := World.rowIs.of_block rx3 (b102.block _ (World.rowIs.lt rx3))
        replace rz3 := World.rowIs.of_block rz3 (b102.block _ (World.rowIs.lt rz3))
        replace rt14 := World.rowIs.of_block rt14 (b102.block _ (World.rowIs.lt rt14))
        replace rt15 := World.rowIs.of_block rt15 (b102.block _ (World.rowIs.lt rt15))
        replace rt16 := World.rowIs.of_block rt16 (b102.block _ (World.rowIs.lt rt16))
        replace rt17 := World.rowIs.of_block rt17 (b102.block _ (World.rowIs.lt rt17))
        replace rt18 := World.rowIs.of_block rt18 (b102.block _ (World.rowIs.lt rt18))
        replace rt19 := World.rowIs.of_block rt19 (b102.block _ (World.rowIs.lt rt19))
        replace rt20 := World.rowIs.of_block rt20 (b102.block _ (World.rowIs.lt rt20))
        replace rt21 := World.rowIs.of_block rt21 (b102.block _ (World.rowIs.lt rt21))
        replace rt22 := World.rowIs.of_block rt22 (b102.block _ (World.rowIs.lt rt22))
        refine ⟨_, rfl, fun c w' => c = 7 → w'.rowIs (w217.heap.size) 47 16 (feF e) ∧ w'.rowIs (w208.heap.size) 47 16 (feF aa), fun c hc => ⟨fun _ => ⟨rt18, rt15⟩, fun w7 h => h⟩, ?_⟩
        simp only [Act.put, List.setIfInBounds_toArray, List.set_cons_zero, List.set_cons_succ, Nat.zero_add]
        refine lins_fn (some 103) 27 #[Operand.tmp 97, Operand.tmp 102] #[47, 47] _ (CM2.out _) rfl rfl rfl rfl Try.func27 (by kernel_rfl) (by kernel_rfl) (by go_simp) ?_
        rintro e w103 ⟨rfl, b103⟩
        replace B := B.trans (b103.mono (HGS.out _ B))
        replace rk := World.rowIs.of_block rk (b103.block _ (World.rowIs.lt rk))
        replace ru := World.rowIs.of_block ru (b103.block _ (World.rowIs.lt ru))
        replace rx2 := World.rowIs.of_block rx2 (b103.block _ (World.rowIs.lt rx2))
        replace rz2 := World.rowIs.of_block rz2 (b103.block _ (World.rowIs.lt rz2))
        replace rx3 := World.rowIs.of_block rx3 (b103.block _ (World.rowIs.lt rx3))
        replace rz3 := World.rowIs.of_block rz3 (b103.block _ (World.rowIs.lt rz3))
        replace rt14 := World.rowIs.of_block rt14 (b103.block _ (World.rowIs.lt rt14))
        replace rt15 := World.rowIs.of_block rt15 (b103.block _ (World.rowIs.lt rt15))
        replace rt16 := World.rowIs.of_block rt16 (b103.block _ (World.rowIs.lt rt16))
        replace rt17 := World.rowIs.of_block rt17 (b103.block _ (World.rowIs.lt rt17))
        replace rt18 := World.rowIs.of_block rt18 (b103.block _ (World.rowIs.lt rt18))
        replace rt19 := World.rowIs.of_block rt19 (b103.block _ (World.rowIs.lt rt19))
        replace rt20 := World.rowIs.of_block rt20 (b103.block _ (World.rowIs.lt rt20))
        replace rt21 := World.rowIs.of_block rt21 (b103.block _ (World.rowIs.lt rt21))
        replace rt22 := World.rowIs.of_block rt22 (b103.block _ (World.rowIs.lt rt22))
        refine ⟨_, rfl, fun c w' => c = 7 → w'.rowIs (w217.heap.size) 47 16 (feF e) ∧ w'.rowIs (w208.heap.size) 47 16 (feF aa), fun c hc => ⟨fun _ => ⟨rt18, rt15⟩, fun w7 h => h⟩, ?_⟩
        simp only [Act.put, List.setIfInBounds_toArray, List.set_cons_zero, List.set_cons_succ, Nat.zero_add]
        refine lins_store_arr (k := 16) (off := 0) 47 (.tmp 8) (.tmp 103) rfl rfl rfl rfl rz2 rfl rfl arrFe (by omega) (fun _ _ => rfl) ?_
        intro x104 hr104 hg104 hs104
        replace rz2 : x104.rowIs g8 47 16 (feF m2) := hr104.congr fun i hi => by unfold putN; rw [if_pos (by omega), Nat.sub_zero]
        replace rk := gb_rowIs rk hg104 n_k_z2
        replace ru := gb_rowIs ru hg104 n_u_z2
        replace rx2 := gb_rowIs rx2 hg104 n_x2_z2
        replace rx3 := gb_rowIs rx3 hg104 (Ne.symm n_z2_x3)
        replace rz3 := gb_rowIs rz3 hg104 (Ne.symm n_z2_z3)
        replace rt14 := gb_rowIs rt14 hg104 (Ne.symm (Nat.ne_of_lt lt206_z2))
        replace rt15 := gb_rowIs rt15 hg104 (Ne.symm (Nat.ne_of_lt lt209_z2))
        replace rt16 := gb_rowIs rt16 hg104 (Ne.symm (Nat.ne_of_lt lt212_z2))
        replace rt17 := gb_rowIs rt17 hg104 (Ne.symm (Nat.ne_of_lt lt215_z2))
        replace rt18 := gb_rowIs rt18 hg104 (Ne.symm (Nat.ne_of_lt lt218_z2))
        replace rt19 := gb_rowIs rt19 hg104 (Ne.symm (Nat.ne_of_lt lt221_z2))
        replace rt20 := gb_rowIs rt20 hg104 (Ne.symm (Nat.ne_of_lt lt224_z2))
        replace rt21 := gb_rowIs rt21 hg104 (Ne.symm (Nat.ne_of_lt lt227_z2))
        replace rt22 := gb_rowIs rt22 hg104 (Ne.symm (Nat.ne_of_lt lt230_z2))
        replace B := B.grown hg104 (HGS.out _ B) (by intro k hk; cases hk; exact l_z2)
        clear hr104 hg104 hs104
        refine ⟨fun _ _ => True, fun c hc => (by cases hc), ?_⟩
        try simp only [Act.put, List.setIfInBounds_toArray, List.set_cons_zero, List.set_cons_succ, Nat.zero_add]
        refine lins_end ?_
        go_wp2
        go_roundw
        case rel =>
          refine ⟨i + 1, _, by omega, ladS_next U K i, ?_⟩
          rw [ladS_next, ← HS.out, HBI.out]
          unfold ladStep
          dsimp only
          rw [if_neg hsb, if_neg hsb]
          dsimp only
          rw [← en2.out, ← em2.out, ← en3.out, ← em3.out]
          exact ⟨rfl, by rw [HTI.out]; go_num, rx2, rz2, rx3, rz3, ru, rk, B⟩
        case measure => (simp [intOf]; try omega)
    · obtain rfl : i = 255 := by omega
      obtain ⟨sb, ⟨p1, p2⟩, ⟨p3, p4⟩⟩ := s
      dsimp only at *
      have hend : ladder U K = ladEnd (sb, (p1, p2), (p3, p4)) := by unfold ladder; rw [HS.out]
      clear HS
      by_cases hs1 : sb = 1
      · have hsI : (sb : Int) = 1 := by omega
        have HR1 : Hid (ladder U K = mulP p3 (invP p4)) := Lib.hid (by rw [hend]; unfold ladEnd; rw [if_pos hs1])
        clear hend hs1
        go_wp2
        replace B := B.drew
        replace rx2 := World.rowIs.drew rx2
        replace rz2 := World.rowIs.drew rz2
        replace rx3 := World.rowIs.drew rx3
        replace rz3 := World.rowIs.drew rz3
        refine wp_region_lins [(0, some [2, 3]), (1, some [3]), (2, none), (3, none)] (fun c w' => w'.rowIs g9 47 16 (feF p3) ∧ w'.rowIs g10 47 16 (feF p4)) (by kernel_rfl) (by kernel_rfl) (by decide) (by kernel_rfl) (fun d _ _ _ _ h => by cases d <;> exact h) (fun c hc => ⟨rx3, rz3⟩) ?_
        refine lins_read 106 (Op.load 47 (Operand.tmp 9)) 47 (.agg (arrOf 16 fun i => feF p3 (0 + i))) rfl rfl rfl rfl rfl (fun w0 hw0 => by exact exec_load_arr _ _ _ _ rfl arrFe ((hw0 3 (by simp)).1) (by omega)) ?_
        simp only [Act.put, List.setIfInBounds_toArray, List.set_cons_zero, List.set_cons_succ, Nat.zero_add]
        refine lins_read 107 (Op.load 47 (Operand.tmp 10)) 47 (.agg (arrOf 16 fun i => feF p4 (0 + i))) rfl rfl rfl rfl rfl (fun w0 hw0 => by exact exec_load_arr _ _ _ _ rfl arrFe ((hw0 3 (by simp)).2) (by omega)) ?_
        simp only [Act.put, List.setIfInBounds_toArray, List.set_cons_zero, List.set_cons_succ, Nat.zero_add]
        refine lins_store_arr (k := 16) (off := 0) 47 (.tmp 7) (.tmp 106) rfl rfl rfl rfl rx2 rfl rfl arrFe (by omega) (fun _ _ => rfl) ?_
        intro x402 hr402 hg402 hs402
        replace rx2 : x402.rowIs g7 47 16 (feF p3) := hr402.congr fun i hi => by unfold putN; rw [if_pos (by omega), Nat.sub_zero]
        replace rz2 := gb_rowIs rz2 hg402 (Ne.symm n_x2_z2)
        replace rx3 := gb_rowIs rx3 hg402 (Ne.symm n_x2_x3)
        replace rz3 := gb_rowIs rz3 hg402 (Ne.symm n_x2_z3)
        replace B := B.grown hg402 (HGS.out _ B) (by intro k hk; cases hk; exact l_x2)
        clear hr402 hg402 hs402
        refine ⟨fun c w' => w'.rowIs g9 47 16 (feF p3) ∧ w'.rowIs g10 47 16 (feF p4), fun c hc => ⟨⟨rx3, rz3⟩, fun w7 h => h⟩, ?_⟩
        try simp only [Act.put, List.setIfInBounds_toArray, List.set_cons_zero, List.set_cons_succ, Nat.zero_add]
        refine lins_store_arr (k := 16) (off := 0) 47 (.tmp 8) (.tmp 107) rfl rfl rfl rfl rz2 rfl rfl arrFe (by omega) (fun _ _ => rfl) ?_
        intro x403 hr403 hg403 hs403
        replace rz2 : x403.rowIs g8 47 16 (feF p4) := hr403.congr fun i hi => by unfold putN; rw [if_pos (by omega), Nat.sub_zero]
        replace rx2 := gb_rowIs rx2 hg403 n_x2_z2
        replace rx3 := gb_rowIs rx3 hg403 (Ne.symm n_z2_x3)
        replace rz3 := gb_rowIs rz3 hg403 (Ne.symm n_z2_z3)
        replace B := B.grown hg403 (HGS.out _ B) (by intro k hk; cases hk; exact l_z2)
        clear hr403 hg403 hs403
        refine ⟨fun _ _ => True, fun c hc => (by cases hc), ?_⟩
        try simp only [Act.put, List.setIfInBounds_toArray, List.set_cons_zero, List.set_cons_succ, Nat.zero_add]
        refine lins_end ?_
        go_wp2
        replace B := B.drew
        replace rx2 := World.rowIs.drew rx2
        replace rz2 := World.rowIs.drew rz2
        replace rx3 := World.rowIs.drew rx3
        replace rz3 := World.rowIs.drew rz3
        refine wp_region_lint (.rd 0 (.rd 1 (.wr 2 (.wr 3 (.wr 4 (.rd 5 .done)))))) (by kernel_rfl) (by kernel_rfl) (by decide) (by kernel_rfl) (fun d _ _ _ _ h => by cases d <;> exact h) ?_
        refine lint_pure 108 (Op.load 47 (Operand.tmp 7)) 47 (.agg (arrOf 16 fun i => feF p3 (0 + i))) rfl rfl rfl rfl rfl (fun w0 hb0 => by exact exec_load_arr _ _ _ _ rfl arrFe (rx2.of_block (hb0.block _ (World.rowIs.lt rx2))) (by omega)) ?_
        simp only [Act.put, List.setIfInBounds_toArray, List.set_cons_zero, List.set_cons_succ, Nat.zero_add]
        refine lint_pure 109 (Op.load 47 (Operand.tmp 8)) 47 (.agg (arrOf 16 fun i => feF p4 (0 + i))) rfl rfl rfl rfl rfl (fun w0 hb0 => by exact exec_load_arr _ _ _ _ rfl arrFe (rz2.of_block (hb0.block _ (World.rowIs.lt rz2))) (by omega)) ?_
        simp only [Act.put, List.setIfInBounds_toArray, List.set_cons_zero, List.set_cons_succ, Nat.zero_add]
        refine stp_fn 110 29 #[Operand.tmp 109] #[47] _ (refInv5_any p4 _ hlp4) rfl rfl rfl rfl Try.func29 (by kernel_rfl) (by kernel_rfl) (by go_simp) ?_
        rintro e w110 ⟨rfl, b110⟩
        replace B := B.trans (b110.mono (HGS.out _ B))
        have rowX := rx2.of_block (b110.block _ (World.rowIs.lt rx2))
        refine ⟨_, rfl, b110, ?_⟩
        simp only [Act.put, List.setIfInBounds_toArray, List.set_cons_zero, List.set_cons_succ, Nat.zero_add]
        refine stp_fn 111 27 #[Operand.tmp 108, Operand.tmp 110] #[47, 47] _ (refMul5_any p3 (invP p4) _ hlp3 (invP_lt _)) rfl rfl rfl rfl Try.func27 (by kernel_rfl) (by kernel_rfl) (by go_simp) ?_
        rintro e w111 ⟨rfl, b111⟩
        replace B := B.trans (b111.mono (HGS.out _ B))
        refine ⟨_, rfl, b111, ?_⟩
        simp only [Act.put, List.setIfInBounds_toArray, List.set_cons_zero, List.set_cons_succ, Nat.zero_add]
        refine stp_fn 112 30 #[Operand.tmp 111] #[47] _ (refBytes_any (mulP p3 (invP p4)) _) rfl rfl rfl rfl Try.func30 (by kernel_rfl) (by kernel_rfl) (by go_simp) ?_
        rintro e w112 ⟨v112, rfl, hO, b112⟩
        have hOL := Owns.lower hO (HGS.out _ B)
        replace B := B.trans (b112.mono (HGS.out _ B))
        refine ⟨_, rfl, b112, ?_⟩
        simp only [Act.put, List.setIfInBounds_toArray, List.set_cons_zero, List.set_cons_succ, Nat.zero_add]
        refine lint_pure 4 (Op.assign (Operand.tmp 112)) 22 _ rfl rfl rfl rfl rfl (fun w0 hb0 => by unfold mkOp; go_simp; all_goals (with_reducible rfl)) ?_
        simp only [Act.put, List.setIfInBounds_toArray, List.set_cons_zero, List.set_cons_succ, Nat.zero_add]
        refine lint_end ?_
        go_wp2
        go_ret
        exact ⟨_, rfl, by rw [hgk, HR1.out]; exact hOL, by rw [hgk]; exact B⟩
      · have hsI : ¬ (sb : Int) = 1 := by omega
        have HR1 : Hid (ladder U K = mulP p1 (invP p2)) := Lib.hid (by rw [hend]; unfold ladEnd; rw [if_neg hs1])
        clear hend hs1
        go_wp2
        replace B := B.drew
        replace rx2 := World.rowIs.drew rx2
        replace rz2 := World.rowIs.drew rz2
        refine wp_region_lint (.rd 0 (.rd 1 (.wr 2 (.wr 3 (.wr 4 (.rd 5 .done)))))) (by kernel_rfl) (by kernel_rfl) (by decide) (by kernel_rfl) (fun d _ _ _ _ h => by cases d <;> exact h) ?_
        refine lint_pure 108 (Op.load 47 (Operand.tmp 7)) 47 (.agg (arrOf 16 fun i => feF p1 (0 + i))) rfl rfl rfl rfl rfl (fun w0 hb0 => by exact exec_load_arr _ _ _ _ rfl arrFe (rx2.of_block (hb0.block _ (World.rowIs.lt rx2))) (by omega)) ?_
        simp only [Act.put, List.setIfInBounds_toArray, List.set_cons_zero, List.set_cons_succ, Nat.zero_add]
        refine lint_pure 109 (Op.load 47 (Operand.tmp 8)) 47 (.agg (arrOf 16 fun i => feF p2 (0 + i))) rfl rfl rfl rfl rfl (fun w0 hb0 => by exact exec_load_arr _ _ _ _ rfl arrFe (rz2.of_block (hb0.block _ (World.rowIs.lt rz2))) (by omega)) ?_
        simp only [Act.put, List.setIfInBounds_toArray, List.set_cons_zero, List.set_cons_succ, Nat.zero_add]
        refine stp_fn 110 29 #[Operand.tmp 109] #[47] _ (refInv5_any p2 _ hlp2) rfl rfl rfl rfl Try.func29 (by kernel_rfl) (by kernel_rfl) (by go_simp) ?_
        rintro e w110 ⟨rfl, b110⟩
        replace B := B.trans (b110.mono (HGS.out _ B))
        have rowX := rx2.of_block (b110.block _ (World.rowIs.lt rx2))
        refine ⟨_, rfl, b110, ?_⟩
        simp only [Act.put, List.setIfInBounds_toArray, List.set_cons_zero, List.set_cons_succ, Nat.zero_add]
        refine stp_fn 111 27 #[Operand.tmp 108, Operand.tmp 110] #[47, 47] _ (refMul5_any p1 (invP p2) _ hlp1 (invP_lt _)) rfl rfl rfl rfl Try.func27 (by kernel_rfl) (by kernel_rfl) (by go_simp) ?_
        rintro e w111 ⟨rfl, b111⟩
        replace B := B.trans (b111.mono (HGS.out _ B))
        refine ⟨_, rfl, b111, ?_⟩
        simp only [Act.put, List.setIfInBounds_toArray, List.set_cons_zero, List.set_cons_succ, Nat.zero_add]
        refine stp_fn 112 30 #[Operand.tmp 111] #[47] _ (refBytes_any (mulP p1 (invP p2)) _) rfl rfl rfl rfl Try.func30 (by kernel_rfl) (by kernel_rfl) (by go_simp) ?_
        rintro e w112 ⟨v112, rfl, hO, b112⟩
        have hOL := Owns.lower hO (HGS.out _ B)
        replace B := B.trans (b112.mono (HGS.out _ B))
        refine ⟨_, rfl, b112, ?_⟩
        simp only [Act.put, List.setIfInBounds_toArray, List.set_cons_zero, List.set_cons_succ, Nat.zero_add]
        refine lint_pure 4 (Op.assign (Operand.tmp 112)) 22 _ rfl rfl rfl rfl rfl (fun w0 hb0 => by unfold mkOp; go_simp; all_goals (with_reducible rfl)) ?_
        simp only [Act.put, List.setIfInBounds_toArray, List.set_cons_zero, List.set_cons_succ, Nat.zero_add]
        refine lint_end ?_
        go_wp2
        go_ret
        exact ⟨_, rfl, by rw [hgk, HR1.out]; exact hOL, by rw [hgk]; exact B⟩
end Go.Proofs.Ytnoppemclfnlcaa
