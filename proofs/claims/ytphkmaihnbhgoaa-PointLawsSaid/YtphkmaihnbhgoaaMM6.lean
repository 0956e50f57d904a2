/- Texts joined: what they are for stands ahead of each. -/
import Derived.Test.YtphkmaihnbhgoaaMM5
import Derived.Lib.SlBytesConst
import Derived.ProofKit
import Derived.OpenShut
import Derived.ChangeOld
import Derived.Deep.Matrix
set_option linter.unusedSimpArgs false
set_option linter.unusedVariables false

/- The program's points by triples: a sum over as many, Mult, Times, Small, Base. -/
namespace Go.Proofs.Ytphkmaihnbhgoaa
open Go.RowKit Go.Deep
set_option linter.unusedSimpArgs false
set_option linter.unusedVariables false

def qT (t : Nat × Nat × Nat) : Nat → Value := qF t.1 t.2.1 t.2.2
theorem qTAdd_any (t u : Nat × Nat × Nat) (w : World) (h : LtT t) (k : LtT u) : Calls Try.prog 22 #[.agg (arrOf 12 (qT t)), .agg (arrOf 12 (qT u))] w fun e w' => e = .returned (.agg (arrOf 12 (qT (qAdd t u)))) ∧ Below w.heap.size w w' := qAdd_any t.1 t.2.1 t.2.2 u.1 u.2.1 u.2.2 w h.1 h.2.1 h.2.2 k.1 k.2.1 k.2.2
theorem qTNeg_any (t : Nat × Nat × Nat) (w : World) (h : LtT t) : Calls Try.prog 24 #[.agg (arrOf 12 (qT t))] w fun e w' => e = .returned (.agg (arrOf 12 (qT (pneg t)))) ∧ Below w.heap.size w w' := qNeg_any t.1 t.2.1 t.2.2 w h.1 h.2.1 h.2.2
theorem qTSame_any (t u : Nat × Nat × Nat) (w : World) (h : LtT t) (k : LtT u) : Calls Try.prog 26 #[.agg (arrOf 12 (qT t)), .agg (arrOf 12 (qT u))] w fun e w' => e = .returned (.bool (qSame t u)) ∧ Below w.heap.size w w' := qSame_any t.1 t.2.1 t.2.2 u.1 u.2.1 u.2.2 w h.1 h.2.1 h.2.2 k.1 k.2.1 k.2.2
theorem qTSame_to (t u : Nat × Nat × Nat) (b : Bool) (w : World) (h : LtT t) (k : LtT u) (hb : qSame t u = b) : Calls Try.prog 26 #[.agg (arrOf 12 (qT t)), .agg (arrOf 12 (qT u))] w fun e w' => e = .returned (.bool b) ∧ Below w.heap.size w w' := by
  have g := qTSame_any t u w h k
  rwa [hb] at g
theorem builtQT (x y z : Nat) : Try.prog.built 29 [(0, .agg (arrOf 4 (ewF x))), (1, .agg (arrOf 4 (ewF y))), (2, .agg (arrOf 4 (ewF z)))] = some (arrOf 12 (qT (x, y, z))) := builtQ x y z
theorem builtQT0 : Try.prog.built 29 [] = some (arrOf 12 (qT (0, 0, 0))) := builtQ0
theorem zeroQT : ∀ i, i < 12 → u64f (fun _ => 0) i = qT (0, 0, 0) i := fun i hi => by
  have e : ∀ j, ewF 0 j = .int .u64 0 := fun j => by
    unfold ewF u64f wd
    simp
  unfold qT qF
  simp only [e, ite_self]
  rfl
theorem qmulS_one {a t : Nat × Nat × Nat} {K n i : Nat} (h : qmulS a K n i = t) (hb : K / 2 ^ (n - (i + 1)) % 2 = 1) : qmulS a K n (i + 1) = qAdd (qAdd t t) a := by
  unfold qmulS
  rw [if_pos hb, h]
theorem qmulS_nil {a t : Nat × Nat × Nat} {K n i : Nat} (h : qmulS a K n i = t) (hb : K / 2 ^ (n - (i + 1)) % 2 = 0) : qmulS a K n (i + 1) = qAdd t t := by
  unfold qmulS
  rw [if_neg (by omega), h]
set_option maxHeartbeats 4000000 in
set_option maxRecDepth 10000 in
theorem pOften_any (a : Nat × Nat × Nat) (V n : Nat) (w : World) (Ha : LtT a) (Hn : n ≤ 256) : Calls Try.prog 60 #[.func (.func 22) #[] #[], .agg (arrOf 12 (qT a)), .func (.func 61) #[] #[], .agg (arrOf 4 (ewF V)), .int .i64 (n : Int)] w fun e w' => e = .returned (.agg (arrOf 12 (qT (qOft a V n)))) ∧ Below w.heap.size w w' := by
  have qn : IntKind.i64.wrap ((n : Int) - 1) = (n : Int) - 1 := IntWalk.i64_in _ (by omega)
  have Bw0 := Below.refl w.heap.size w
  have HGS : Hid (∀ wq : World, Below w.heap.size w wq → w.heap.size ≤ wq.heap.size) := Lib.hid fun wq h => h.size
  replace Ha := Lib.hid Ha
  replace Hn := Lib.hid Hn
  go_enter Try.func60, Try.ntmps60
  go_wp2_with (first
    | (have hgo := Bw0; clear hgo
       refine wpList_box_row rfl 29 (.tmp 1) rfl 12 (qT a) rfl ?_
       intro b_t6 w1 lk r_t6 kk
       have l_t6 := Nat.le_trans (HGS.out _ Bw0) lk
       have Bw1 := Bw0.trans (kk.mono (HGS.out _ Bw0))
       clear Bw0 kk lk)
    | (have hgo := Bw1; clear hgo
       refine wpList_box_row rfl 45 (.tmp 3) rfl 4 (ewF V) rfl ?_
       intro b_t8 w2 lk r_t8 kk
       have n_t6_t8 : b_t6 ≠ b_t8 := Nat.ne_of_lt (Nat.lt_of_lt_of_le (World.rowIs.lt r_t6) lk)
       have l_t8 := Nat.le_trans (HGS.out _ Bw1) lk
       replace r_t6 := World.rowIs.of_block r_t6 (kk.block _ (World.rowIs.lt r_t6))
       have Bw2 := Bw1.trans (kk.mono (HGS.out _ Bw1))
       clear Bw1 kk lk)
    | (have hgo := Bw2; clear hgo
       refine wpList_alloc_row rfl 29 rfl 12 (u64f fun _ => 0) zeroQ ?_
       intro b_t10 w3 lk r_t10 kk
       have n_t6_t10 : b_t6 ≠ b_t10 := Nat.ne_of_lt (Nat.lt_of_lt_of_le (World.rowIs.lt r_t6) lk)
       have n_t8_t10 : b_t8 ≠ b_t10 := Nat.ne_of_lt (Nat.lt_of_lt_of_le (World.rowIs.lt r_t8) lk)
       have l_t10 := Nat.le_trans (HGS.out _ Bw2) lk
       replace r_t6 := World.rowIs.of_block r_t6 (kk.block _ (World.rowIs.lt r_t6))
       replace r_t8 := World.rowIs.of_block r_t8 (kk.block _ (World.rowIs.lt r_t8))
       have Bw3 := Bw2.trans (kk.mono (HGS.out _ Bw2))
       clear Bw2 kk lk)
    | (have hgo := Bw3; clear hgo
       refine wpList_alloc_row rfl 29 rfl 12 (u64f fun _ => 0) zeroQ ?_
       intro b_t11 w4 lk r_t11 kk
       have n_t6_t11 : b_t6 ≠ b_t11 := Nat.ne_of_lt (Nat.lt_of_lt_of_le (World.rowIs.lt r_t6) lk)
       have n_t8_t11 : b_t8 ≠ b_t11 := Nat.ne_of_lt (Nat.lt_of_lt_of_le (World.rowIs.lt r_t8) lk)
       have n_t10_t11 : b_t10 ≠ b_t11 := Nat.ne_of_lt (Nat.lt_of_lt_of_le (World.rowIs.lt r_t10) lk)
       have l_t11 := Nat.le_trans (HGS.out _ Bw3) lk
       replace r_t6 := World.rowIs.of_block r_t6 (kk.block _ (World.rowIs.lt r_t6))
       replace r_t8 := World.rowIs.of_block r_t8 (kk.block _ (World.rowIs.lt r_t8))
       replace r_t10 := World.rowIs.of_block r_t10 (kk.block _ (World.rowIs.lt r_t10))
       have Bw4 := Bw3.trans (kk.mono (HGS.out _ Bw3))
       clear Bw3 kk lk))
  go_loopw [12] (fun kv wr => ∃ (i : Nat) (t : Nat × Nat × Nat), i ≤ n ∧ qmulS a V n i = t ∧ LtT t ∧ kv = .int .i64 ((n : Int) - 1 - (i : Int)) ∧ wr.rowIs b_t11 29 12 (qT t) ∧ wr.rowIs b_t6 29 12 (qT a) ∧ wr.rowIs b_t8 45 4 (ewF V) ∧ wr.rowIs b_t10 29 12 (u64f fun _ => 0) ∧ Below w.heap.size w wr) (fun kv _ => ((intOf kv) + 1).toNat)
  case atStart =>
    exact ⟨0, (0, 0, 0), Nat.zero_le _, rfl, LtT.none, by first | go_num | simp, World.rowIs.congr r_t11 zeroQT, r_t6, r_t8, r_t10, Bw4⟩
  case round =>
  clear r_t11 r_t6 r_t8 r_t10 Bw4
  obtain ⟨i, t, hi, hcl, hlt, rfl, r_t11, r_t6, r_t8, r_t10, B⟩ := hrel
  have Ht := Lib.hid hlt
  replace hcl := Lib.hid hcl
  clear hlt
  by_cases hin : i < n
  · obtain ⟨tt, htt⟩ := nat_var (n - (i + 1))
    have hn256 := Hn.out
    have htI : (n : Int) - 1 - (i : Int) = (tt : Int) := by omega
    rw [htI]
    have HTI := Lib.hid (show (tt : Int) = (n : Int) - 1 - (i : Int) from htI.symm)
    have ht0 : 0 ≤ (tt : Int) := by omega
    have htn : IntKind.i64.wrap ((tt : Int) - 1) = (tt : Int) - 1 := IntWalk.i64_in _ (by omega)
    have hbz : bitZ V (tt : Int) = V / 2 ^ tt % 2 := by
      unfold bitZ
      rw [if_pos ⟨by omega, by omega⟩, Int.toNat_natCast]
    have hbit := fun w => sBit_any V (tt : Int) w (by omega) (by omega)
    rw [hbz] at hbit
    obtain ⟨b, hb⟩ := nat_var (V / 2 ^ tt % 2)
    have hb2 : b < 2 := by rw [hb]; exact Nat.mod_lt _ (by decide)
    rw [← hb] at hbit
    have HBIT := Lib.hid hbit
    have HBI : Hid (V / 2 ^ (n - (i + 1)) % 2 = b) := Lib.hid (by rw [← htt, hb])
    clear hbit hbz hb htt htI hn256
    rcases (show b = 0 ∨ b = 1 by omega) with rfl | rfl
    · have Bw0 := B
      clear B
      go_wp2_with (first
        | (have hgo := Bw0; clear hgo
           refine wpList_load_as rfl 29 (.tmp 11) rfl 12 (qT t) arrQ r_t11 rfl (by omega) (fun i hi => by rw [Nat.zero_add]) ?_
           have Bw1 := Bw0
           clear Bw0)
        | (have hgo := Bw1; clear hgo
           refine wpList_load_as rfl 29 (.tmp 11) rfl 12 (qT t) arrQ r_t11 rfl (by omega) (fun i hi => by rw [Nat.zero_add]) ?_
           have Bw2 := Bw1
           clear Bw1)
        | (have hgo := Bw2; clear hgo
           go_at_call 22
           refine (qTAdd_any t t _ Ht.out Ht.out).mono ?_
           rintro e w11 ⟨rfl, kk⟩
           replace r_t11 := World.rowIs.of_block r_t11 (kk.block _ (World.rowIs.lt r_t11))
           replace r_t6 := World.rowIs.of_block r_t6 (kk.block _ (World.rowIs.lt r_t6))
           replace r_t8 := World.rowIs.of_block r_t8 (kk.block _ (World.rowIs.lt r_t8))
           replace r_t10 := World.rowIs.of_block r_t10 (kk.block _ (World.rowIs.lt r_t10))
           have Bw3 := Bw2.trans (kk.mono (HGS.out _ Bw2))
           clear Bw2 kk)
        | (have hgo := Bw3; clear hgo
           refine wpList_store_as rfl 29 (.tmp 11) (.tmp 22) rfl 12 (qT (qAdd t t)) arrQ r_t11 rfl rfl (by omega) (fun j _ => qF_one _ _ _ j) (fun i hi => putN_whole hi) ?_
           intro w12 q gk
           replace r_t6 := gb_rowIs r_t6 gk n_t6_t11
           replace r_t8 := gb_rowIs r_t8 gk n_t8_t11
           replace r_t10 := gb_rowIs r_t10 gk n_t10_t11
           replace r_t11 := q
           have Bw4 := Bw3.grown gk (HGS.out _ Bw3) (by intro k hk; cases hk; exact l_t11)
           clear Bw3 gk q)
        | (have hgo := Bw4; clear hgo
           refine wpList_load_as rfl 45 (.tmp 8) rfl 4 (ewF V) arrS r_t8 rfl (by omega) (fun i hi => by rw [Nat.zero_add]) ?_
           have Bw5 := Bw4
           clear Bw4)
        | (have hgo := Bw5; clear hgo
           go_at_call 61
           refine (HBIT.out _).mono ?_
           rintro e w16 ⟨rfl, kk⟩
           replace r_t11 := World.rowIs.of_block r_t11 (kk.block _ (World.rowIs.lt r_t11))
           replace r_t6 := World.rowIs.of_block r_t6 (kk.block _ (World.rowIs.lt r_t6))
           replace r_t8 := World.rowIs.of_block r_t8 (kk.block _ (World.rowIs.lt r_t8))
           replace r_t10 := World.rowIs.of_block r_t10 (kk.block _ (World.rowIs.lt r_t10))
           have Bw6 := Bw5.trans (kk.mono (HGS.out _ Bw5))
           clear Bw5 kk))
      go_roundw
      case rel =>
        exact ⟨i + 1, _, by omega, qmulS_nil hcl.out HBI.out, LtT.qAdd _ _, by rw [HTI.out]; go_num, r_t11, r_t6, r_t8, r_t10, Bw6⟩
      case measure => (simp [intOf]; try omega)
    · have Bw0 := B
      clear B
      go_wp2_with (first
        | (have hgo := Bw0; clear hgo
           refine wpList_load_as rfl 29 (.tmp 11) rfl 12 (qT t) arrQ r_t11 rfl (by omega) (fun i hi => by rw [Nat.zero_add]) ?_
           have Bw1 := Bw0
           clear Bw0)
        | (have hgo := Bw1; clear hgo
           refine wpList_load_as rfl 29 (.tmp 11) rfl 12 (qT t) arrQ r_t11 rfl (by omega) (fun i hi => by rw [Nat.zero_add]) ?_
           have Bw2 := Bw1
           clear Bw1)
        | (have hgo := Bw2; clear hgo
           go_at_call 22
           refine (qTAdd_any t t _ Ht.out Ht.out).mono ?_
           rintro e w11 ⟨rfl, kk⟩
           replace r_t11 := World.rowIs.of_block r_t11 (kk.block _ (World.rowIs.lt r_t11))
           replace r_t6 := World.rowIs.of_block r_t6 (kk.block _ (World.rowIs.lt r_t6))
           replace r_t8 := World.rowIs.of_block r_t8 (kk.block _ (World.rowIs.lt r_t8))
           replace r_t10 := World.rowIs.of_block r_t10 (kk.block _ (World.rowIs.lt r_t10))
           have Bw3 := Bw2.trans (kk.mono (HGS.out _ Bw2))
           clear Bw2 kk)
        | (have hgo := Bw3; clear hgo
           refine wpList_store_as rfl 29 (.tmp 11) (.tmp 22) rfl 12 (qT (qAdd t t)) arrQ r_t11 rfl rfl (by omega) (fun j _ => qF_one _ _ _ j) (fun i hi => putN_whole hi) ?_
           intro w12 q gk
           replace r_t6 := gb_rowIs r_t6 gk n_t6_t11
           replace r_t8 := gb_rowIs r_t8 gk n_t8_t11
           replace r_t10 := gb_rowIs r_t10 gk n_t10_t11
           replace r_t11 := q
           have Bw4 := Bw3.grown gk (HGS.out _ Bw3) (by intro k hk; cases hk; exact l_t11)
           clear Bw3 gk q)
        | (have hgo := Bw4; clear hgo
           refine wpList_load_as rfl 45 (.tmp 8) rfl 4 (ewF V) arrS r_t8 rfl (by omega) (fun i hi => by rw [Nat.zero_add]) ?_
           have Bw5 := Bw4
           clear Bw4)
        | (have hgo := Bw5; clear hgo
           go_at_call 61
           refine (HBIT.out _).mono ?_
           rintro e w16 ⟨rfl, kk⟩
           replace r_t11 := World.rowIs.of_block r_t11 (kk.block _ (World.rowIs.lt r_t11))
           replace r_t6 := World.rowIs.of_block r_t6 (kk.block _ (World.rowIs.lt r_t6))
           replace r_t8 := World.rowIs.of_block r_t8 (kk.block _ (World.rowIs.lt r_t8))
           replace r_t10 := World.rowIs.of_block r_t10 (kk.block _ (World.rowIs.lt r_t10))
           have Bw6 := Bw5.trans (kk.mono (HGS.out _ Bw5))
           clear Bw5 kk)
        | (have hgo := Bw6; clear hgo
           refine wpList_load_as rfl 29 (.tmp 11) rfl 12 (qT (qAdd t t)) arrQ r_t11 rfl (by omega) (fun i hi => by rw [Nat.zero_add]) ?_
           have Bw7 := Bw6
           clear Bw6)
        | (have hgo := Bw7; clear hgo
           refine wpList_load_as rfl 29 (.tmp 6) rfl 12 (qT a) arrQ r_t6 rfl (by omega) (fun i hi => by rw [Nat.zero_add]) ?_
           have Bw8 := Bw7
           clear Bw7)
        | (have hgo := Bw8; clear hgo
           go_at_call 22
           refine (qTAdd_any (qAdd t t) a _ (LtT.qAdd _ _) Ha.out).mono ?_
           rintro e w21 ⟨rfl, kk⟩
           replace r_t11 := World.rowIs.of_block r_t11 (kk.block _ (World.rowIs.lt r_t11))
           replace r_t6 := World.rowIs.of_block r_t6 (kk.block _ (World.rowIs.lt r_t6))
           replace r_t8 := World.rowIs.of_block r_t8 (kk.block _ (World.rowIs.lt r_t8))
           replace r_t10 := World.rowIs.of_block r_t10 (kk.block _ (World.rowIs.lt r_t10))
           have Bw9 := Bw8.trans (kk.mono (HGS.out _ Bw8))
           clear Bw8 kk)
        | (have hgo := Bw9; clear hgo
           refine wpList_store_as rfl 29 (.tmp 11) (.tmp 31) rfl 12 (qT (qAdd (qAdd t t) a)) arrQ r_t11 rfl rfl (by omega) (fun j _ => qF_one _ _ _ j) (fun i hi => putN_whole hi) ?_
           intro w22 q gk
           replace r_t6 := gb_rowIs r_t6 gk n_t6_t11
           replace r_t8 := gb_rowIs r_t8 gk n_t8_t11
           replace r_t10 := gb_rowIs r_t10 gk n_t10_t11
           replace r_t11 := q
           have Bw10 := Bw9.grown gk (HGS.out _ Bw9) (by intro k hk; cases hk; exact l_t11)
           clear Bw9 gk q))
      go_roundw
      case rel =>
        exact ⟨i + 1, _, by omega, qmulS_one hcl.out HBI.out, LtT.qAdd _ _, by rw [HTI.out]; go_num, r_t11, r_t6, r_t8, r_t10, Bw10⟩
      case measure => (simp [intOf]; try omega)
  · obtain rfl : i = n := by omega
    have Bw0 := B
    clear B
    have HE : Hid (qOft a V i = t) := hcl
    go_wp2_with (first
      | (have hgo := Bw0; clear hgo
         refine wpList_load_as rfl 29 (.tmp 11) rfl 12 (qT t) arrQ r_t11 rfl (by omega) (fun i hi => by rw [Nat.zero_add]) ?_
         have Bw1 := Bw0
         clear Bw0)
      | (have hgo := Bw1; clear hgo
         refine wpList_store_as rfl 29 (.tmp 10) (.tmp 32) rfl 12 (qT t) arrQ r_t10 rfl rfl (by omega) (fun j _ => qF_one _ _ _ j) (fun i hi => putN_whole hi) ?_
         intro w502 q gk
         replace r_t11 := gb_rowIs r_t11 gk (Ne.symm n_t10_t11)
         replace r_t6 := gb_rowIs r_t6 gk n_t6_t10
         replace r_t8 := gb_rowIs r_t8 gk n_t8_t10
         replace r_t10 := q
         have Bw2 := Bw1.grown gk (HGS.out _ Bw1) (by intro k hk; cases hk; exact l_t10)
         clear Bw1 gk q))
    exact ret_cell_as _ rfl arrQ r_t10 rfl (by omega) (fun _ _ => rfl) rfl ⟨by rw [HE.out], Bw2⟩
set_option maxHeartbeats 4000000 in
set_option maxRecDepth 10000 in
theorem qTMul_any (a : Nat × Nat × Nat) (V : Nat) (w : World) (Ha : LtT a) : Calls Try.prog 17 #[.agg (arrOf 12 (qT a)), .agg (arrOf 4 (ewF V))] w fun e w' => e = .returned (.agg (arrOf 12 (qT (qMul a V)))) ∧ Below w.heap.size w w' := by
  have Bw0 := Below.refl w.heap.size w
  have HGS : Hid (∀ wq : World, Below w.heap.size w wq → w.heap.size ≤ wq.heap.size) := Lib.hid fun wq h => h.size
  replace Ha := Lib.hid Ha
  go_enter Try.func17, Try.ntmps17
  go_wp2_with (first
    | (have hgo := Bw0; clear hgo
       refine wpList_box_row rfl 29 (.tmp 0) rfl 12 (qT a) rfl ?_
       intro b_t2 w1 lk r_t2 kk
       have l_t2 := Nat.le_trans (HGS.out _ Bw0) lk
       have Bw1 := Bw0.trans (kk.mono (HGS.out _ Bw0))
       clear Bw0 kk lk)
    | (have hgo := Bw1; clear hgo
       refine wpList_box_row rfl 45 (.tmp 1) rfl 4 (ewF V) rfl ?_
       intro b_t3 w2 lk r_t3 kk
       have n_t2_t3 : b_t2 ≠ b_t3 := Nat.ne_of_lt (Nat.lt_of_lt_of_le (World.rowIs.lt r_t2) lk)
       have l_t3 := Nat.le_trans (HGS.out _ Bw1) lk
       replace r_t2 := World.rowIs.of_block r_t2 (kk.block _ (World.rowIs.lt r_t2))
       have Bw2 := Bw1.trans (kk.mono (HGS.out _ Bw1))
       clear Bw1 kk lk)
    | (have hgo := Bw2; clear hgo
       refine wpList_alloc_row rfl 29 rfl 12 (u64f fun _ => 0) zeroQ ?_
       intro b_t4 w3 lk r_t4 kk
       have n_t2_t4 : b_t2 ≠ b_t4 := Nat.ne_of_lt (Nat.lt_of_lt_of_le (World.rowIs.lt r_t2) lk)
       have n_t3_t4 : b_t3 ≠ b_t4 := Nat.ne_of_lt (Nat.lt_of_lt_of_le (World.rowIs.lt r_t3) lk)
       have l_t4 := Nat.le_trans (HGS.out _ Bw2) lk
       replace r_t2 := World.rowIs.of_block r_t2 (kk.block _ (World.rowIs.lt r_t2))
       replace r_t3 := World.rowIs.of_block r_t3 (kk.block _ (World.rowIs.lt r_t3))
       have Bw3 := Bw2.trans (kk.mono (HGS.out _ Bw2))
       clear Bw2 kk lk)
    | (have hgo := Bw3; clear hgo
       refine wpList_load_as rfl 29 (.tmp 2) rfl 12 (qT a) arrQ r_t2 rfl (by omega) (fun i hi => by rw [Nat.zero_add]) ?_
       have Bw4 := Bw3
       clear Bw3)
    | (have hgo := Bw4; clear hgo
       refine wpList_load_as rfl 45 (.tmp 3) rfl 4 (ewF V) arrS r_t3 rfl (by omega) (fun i hi => by rw [Nat.zero_add]) ?_
       have Bw5 := Bw4
       clear Bw4)
    | (have hgo := Bw5; clear hgo
       go_at_call 60
       refine (pOften_any a V 253 _ Ha.out (by decide)).mono ?_
       rintro e w6 ⟨rfl, kk⟩
       replace r_t2 := World.rowIs.of_block r_t2 (kk.block _ (World.rowIs.lt r_t2))
       replace r_t3 := World.rowIs.of_block r_t3 (kk.block _ (World.rowIs.lt r_t3))
       replace r_t4 := World.rowIs.of_block r_t4 (kk.block _ (World.rowIs.lt r_t4))
       have Bw6 := Bw5.trans (kk.mono (HGS.out _ Bw5))
       clear Bw5 kk)
    | (have hgo := Bw6; clear hgo
       refine wpList_store_as rfl 29 (.tmp 4) (.tmp 7) rfl 12 (qT (qOft a V 253)) arrQ r_t4 rfl rfl (by omega) (fun j _ => qF_one _ _ _ j) (fun i hi => putN_whole hi) ?_
       intro w7 q gk
       replace r_t2 := gb_rowIs r_t2 gk n_t2_t4
       replace r_t3 := gb_rowIs r_t3 gk n_t3_t4
       replace r_t4 := q
       have Bw7 := Bw6.grown gk (HGS.out _ Bw6) (by intro k hk; cases hk; exact l_t4)
       clear Bw6 gk q))
  exact ret_cell_as _ rfl arrQ r_t4 rfl (by omega) (fun _ _ => rfl) rfl ⟨rfl, Bw7⟩
def qTim (a : Nat × Nat × Nat) (K : Nat) : Nat × Nat × Nat := qOft a K (Lib.bitLen K)
theorem RQ.tim {P : Nat × Nat} {a : Nat × Nat × Nat} (h : RQ P a) {K : Nat} (hK : K < 4294967296) : RQ (mulE K P) (qTim a K) := h.oft (lenN_lt K (Nat.lt_trans hK (by decide)))
theorem numL_lit8 (K : Nat) (h : K < 4294967296) : numL (litB K 8) 64 % ordL = K := by
  rw [show 64 = 8 + 56 from rfl, numL_wanting (litB K 8) 8 (by rw [litB_length]; exact Nat.le_refl _) 56, numL_litB K 8 8 (Nat.le_refl _), Nat.mod_eq_of_lt (Nat.lt_trans h (by decide)), Nat.mod_eq_of_lt (Nat.lt_trans h (by decide +kernel))]
theorem wide_lit (v : Value) (K : Nat) (w : World) (h : Bs w v (litB K 8)) (hK : K < 4294967296) : Calls Try.prog 18 #[v] w fun e w' => e = .returned (.agg (arrOf 4 (ewF K))) ∧ Below w.heap.size w w' := by
  have g := sWide_any v (litB K 8) w h
  rwa [numL_lit8 K hK] at g
theorem len64_b (K : Nat) (w : World) (h : K < 4294967296) : Calls Try.prog 71 #[.int .u64 (K : Int)] w fun e w' => e = .returned (.int .i64 ((Lib.bitLen K : Nat) : Int)) ∧ Below w.heap.size w w' := by
  refine (len64_any K w h).mono ?_
  rintro e w' ⟨rfl, rfl⟩
  exact ⟨rfl, Below.refl _ _⟩
set_option maxHeartbeats 4000000 in
set_option maxRecDepth 10000 in
theorem pTimes_less (a : Nat × Nat × Nat) (w : World) (Ha : LtT a) (k : Int) (hk : k < 0) : Calls Try.prog 28 #[.agg (arrOf 12 (qT a)), .int .i64 k] w fun e w' => e = .returned (.agg (arrOf 12 (qT (0, 0, 0)))) ∧ Below w.heap.size w w' := by
  have Bw0 := Below.refl w.heap.size w
  have HGS : Hid (∀ wq : World, Below w.heap.size w wq → w.heap.size ≤ wq.heap.size) := Lib.hid fun wq h => h.size
  replace Ha := Lib.hid Ha
  go_enter Try.func28, Try.ntmps28
  go_wp2_with (first
    | (have hgo := Bw0; clear hgo
       refine wpList_box_row rfl 29 (.tmp 0) rfl 12 (qT a) rfl ?_
       intro b_t2 w1 lk r_t2 kk
       have l_t2 := Nat.le_trans (HGS.out _ Bw0) lk
       have Bw1 := Bw0.trans (kk.mono (HGS.out _ Bw0))
       clear Bw0 kk lk)
    | (have hgo := Bw1; clear hgo
       refine wpList_alloc_row rfl 29 rfl 12 (u64f fun _ => 0) zeroQ ?_
       intro b_t4 w2 lk r_t4 kk
       have n_t2_t4 : b_t2 ≠ b_t4 := Nat.ne_of_lt (Nat.lt_of_lt_of_le (World.rowIs.lt r_t2) lk)
       have l_t4 := Nat.le_trans (HGS.out _ Bw1) lk
       replace r_t2 := World.rowIs.of_block r_t2 (kk.block _ (World.rowIs.lt r_t2))
       have Bw2 := Bw1.trans (kk.mono (HGS.out _ Bw1))
       clear Bw1 kk lk)
    | (have hgo := Bw2; clear hgo
       refine wpList_build_arr rfl 29 #[] rfl (arrOf 12 (qT (0, 0, 0))) (by simp only [List.map_toArray, List.map_cons, List.map_nil]; exact builtQT0) ?_
       have Bw3 := Bw2
       clear Bw2)
    | (have hgo := Bw3; clear hgo
       refine wpList_store_as rfl 29 (.tmp 4) (.tmp 12) rfl 12 (qT (0, 0, 0)) arrQ r_t4 rfl rfl (by omega) (fun j _ => qF_one _ _ _ j) (fun i hi => putN_whole hi) ?_
       intro w10 q gk
       replace r_t2 := gb_rowIs r_t2 gk n_t2_t4
       replace r_t4 := q
       have Bw4 := Bw3.grown gk (HGS.out _ Bw3) (by intro k hk; cases hk; exact l_t4)
       clear Bw3 gk q))
  exact ret_cell_as _ rfl arrQ r_t4 rfl (by omega) (fun _ _ => rfl) rfl ⟨rfl, Bw4⟩
set_option maxHeartbeats 4000000 in
set_option maxRecDepth 10000 in
theorem pTimes_in (a : Nat × Nat × Nat) (K : Nat) (w : World) (Ha : LtT a) (hK : K ≤ 2147483648) : Calls Try.prog 28 #[.agg (arrOf 12 (qT a)), .int .i64 (K : Int)] w fun e w' => e = .returned (.agg (arrOf 12 (qT (qTim a K)))) ∧ Below w.heap.size w w' := by
  have Bw0 := Below.refl w.heap.size w
  have HGS : Hid (∀ wq : World, Below w.heap.size w wq → w.heap.size ≤ wq.heap.size) := Lib.hid fun wq h => h.size
  replace Ha := Lib.hid Ha
  have HK := Lib.hid hK
  have q0 : ¬ (K : Int) < 0 := by omega
  have q1 : ¬ (2147483648 : Int) < (K : Int) := by omega
  have q2 : IntKind.u64.wrap (K : Int) = (K : Int) := IntWalk.u64_in _ (by omega)
  have HL := Lib.hid fun w => little64_any K w (by have h := HK.out; omega)
  have HLL : Hid (Lib.bitLen K ≤ 256) := Lib.hid (Nat.le_trans (lenN_le K (by omega)) (by decide))
  have HN := Lib.hid fun w => len64_b K w (by have h := HK.out; omega)
  have HG : Hid (qTim a K = qOft a K (Lib.bitLen K)) := Lib.hid rfl
  obtain ⟨sz, hm⟩ := nat_var (Lib.bitLen K)
  rw [← hm] at HLL HN HG
  clear hm
  go_enter Try.func28, Try.ntmps28
  go_wp2_with (first
    | (have hgo := Bw0; clear hgo
       refine wpList_box_row rfl 29 (.tmp 0) rfl 12 (qT a) rfl ?_
       intro b_t2 w1 lk r_t2 kk
       have l_t2 := Nat.le_trans (HGS.out _ Bw0) lk
       have Bw1 := Bw0.trans (kk.mono (HGS.out _ Bw0))
       clear Bw0 kk lk)
    | (have hgo := Bw1; clear hgo
       refine wpList_alloc_row rfl 29 rfl 12 (u64f fun _ => 0) zeroQ ?_
       intro b_t4 w2 lk r_t4 kk
       have n_t2_t4 : b_t2 ≠ b_t4 := Nat.ne_of_lt (Nat.lt_of_lt_of_le (World.rowIs.lt r_t2) lk)
       have l_t4 := Nat.le_trans (HGS.out _ Bw1) lk
       replace r_t2 := World.rowIs.of_block r_t2 (kk.block _ (World.rowIs.lt r_t2))
       have Bw2 := Bw1.trans (kk.mono (HGS.out _ Bw1))
       clear Bw1 kk lk)
    | (have hgo := Bw2; clear hgo
       go_at_call 70
       refine (HL.out _).mono ?_
       rintro e w11 ⟨v_s15, rfl, f_s15, kk⟩
       replace r_t2 := World.rowIs.of_block r_t2 (kk.block _ (World.rowIs.lt r_t2))
       replace r_t4 := World.rowIs.of_block r_t4 (kk.block _ (World.rowIs.lt r_t4))
       have Bw3 := Bw2.trans (kk.mono (HGS.out _ Bw2))
       clear Bw2 kk)
    | (have hgo := Bw3; clear hgo
       go_at_call 18
       refine (wide_lit _ K _ f_s15 (by have h := HK.out; omega)).mono ?_
       rintro e w12 ⟨rfl, kk⟩
       replace r_t2 := World.rowIs.of_block r_t2 (kk.block _ (World.rowIs.lt r_t2))
       replace r_t4 := World.rowIs.of_block r_t4 (kk.block _ (World.rowIs.lt r_t4))
       replace f_s15 := Bs.below f_s15 kk (Nat.le_refl _)
       have Bw4 := Bw3.trans (kk.mono (HGS.out _ Bw3))
       clear Bw3 kk)
    | (have hgo := Bw4; clear hgo
       refine wpList_alloc_row rfl 45 rfl 4 (u64f fun _ => 0) zeroS ?_
       intro b_t5 w13 lk r_t5 kk
       have n_t2_t5 : b_t2 ≠ b_t5 := Nat.ne_of_lt (Nat.lt_of_lt_of_le (World.rowIs.lt r_t2) lk)
       have n_t4_t5 : b_t4 ≠ b_t5 := Nat.ne_of_lt (Nat.lt_of_lt_of_le (World.rowIs.lt r_t4) lk)
       have l_t5 := Nat.le_trans (HGS.out _ Bw4) lk
       have a_s15_t5 := Bs.away f_s15 lk
       replace r_t2 := World.rowIs.of_block r_t2 (kk.block _ (World.rowIs.lt r_t2))
       replace r_t4 := World.rowIs.of_block r_t4 (kk.block _ (World.rowIs.lt r_t4))
       replace f_s15 := Bs.below f_s15 kk (Nat.le_refl _)
       have Bw5 := Bw4.trans (kk.mono (HGS.out _ Bw4))
       clear Bw4 kk lk)
    | (have hgo := Bw5; clear hgo
       refine wpList_store_as rfl 45 (.tmp 5) (.tmp 16) rfl 4 (ewF K) arrS r_t5 rfl rfl (by omega) (fun _ _ => rfl) (fun i hi => putN_whole hi) ?_
       intro w14 q gk
       replace r_t2 := gb_rowIs r_t2 gk n_t2_t5
       replace r_t4 := gb_rowIs r_t4 gk n_t4_t5
       replace r_t5 := q
       have Bw6 := Bw5.grown gk (HGS.out _ Bw5) (by intro k hk; cases hk; exact l_t5)
       replace f_s15 := gb_bs f_s15 gk a_s15_t5
       clear Bw5 gk q))
  clear f_s15
  go_wp2
  have Bw7 := Bw6.drew
  replace r_t2 := World.rowIs.drew r_t2
  replace r_t4 := World.rowIs.drew r_t4
  replace r_t5 := World.rowIs.drew r_t5
  clear Bw6
  refine wp_region_po (Keep [b_t4]) (Keep.refl _) (fun _ _ _ h1 h2 => h1.trans h2) (.rd 0 (.rd 1 (.rd 2 (.rd 3 .done)))) #[true, true, true, true, false, false, false] [4, 5, 6] [some 21, some 22, none] [[], [0], [0, 1]] [(0, []), (1, []), (2, []), (3, [2]), (4, [3]), (5, [0, 1, 4, 4]), (6, [5, 5, 0, 1, 2, 3, 4, 5])] 15 (by as_aux_lemma => kernel_rfl) (by as_aux_lemma => kernel_rfl) (by decide) (by as_aux_lemma => kernel_rfl) (by as_aux_lemma => kernel_rfl) (by as_aux_lemma => kernel_rfl) rfl (fun d _ _ _ _ h => by cases d <;> exact h) ?_
  refine lintz_pure 17 (Op.load 29 (Operand.tmp 2)) 29 (.agg (arrOf 12 (qT a))) rfl rfl rfl rfl rfl (fun w0 hb => by exact exec_load_as _ _ _ _ (qT a) rfl arrQ (Keep.row hb r_t2 (cont1 n_t2_t4)) (by omega) (fun i hi => by rw [Nat.zero_add])) ?_
  simp only [Act.put, List.setIfInBounds_toArray, List.set_cons_zero, List.set_cons_succ]
  refine lintz_pure 18 (Op.load 45 (Operand.tmp 5)) 45 (.agg (arrOf 4 (ewF K))) rfl rfl rfl rfl rfl (fun w0 hb => by exact exec_load_as _ _ _ _ (ewF K) rfl arrS (Keep.row hb r_t5 (cont1 (Ne.symm n_t4_t5))) (by omega) (fun i hi => by rw [Nat.zero_add])) ?_
  simp only [Act.put, List.setIfInBounds_toArray, List.set_cons_zero, List.set_cons_succ]
  refine lintz_pure 19 (Op.move (Operand.tmp 1)) 3 (.int .i64 (K : Int)) rfl rfl rfl rfl rfl (fun w0 hb => by unfold mkOp; go_simp; all_goals (with_reducible rfl)) ?_
  simp only [Act.put, List.setIfInBounds_toArray, List.set_cons_zero, List.set_cons_succ]
  refine lintz_pure 20 (Op.convert 3 24 (Operand.tmp 19)) 24 (.int .u64 (K : Int)) rfl rfl rfl rfl rfl (fun w0 hb => by unfold mkOp; go_simp; all_goals (with_reducible rfl)) ?_
  simp only [Act.put, List.setIfInBounds_toArray, List.set_cons_zero, List.set_cons_succ]
  refine lintz_leaf ?_
  have HWF : poWf [.val (.int .i64 (sz : Int)), .val (.agg (arrOf 12 (qT (qOft a K sz)))), .nil] [⟨b_t4, 29, 12, (u64f fun _ => 0), 2, (qT (qOft a K sz))⟩] = true := by as_aux_lemma => kernel_rfl
  refine ⟨JG [.val (.int .i64 (sz : Int)), .val (.agg (arrOf 12 (qT (qOft a K sz)))), .nil] [⟨b_t4, 29, 12, (u64f fun _ => 0), 2, (qT (qOft a K sz))⟩] _, JG.start (Nat.le_refl _) (fun i hi => by obtain rfl : i = 0 := by { have h9 : i < 1 := hi; omega }; exact r_t4), fun m gz wa p az hp hm hmp hcl hdn hE hJ hS hO => ?_, fun gz wa hE hJ => ?_⟩
  · rcases (show p = 0 ∨ p = 1 ∨ p = 2 by have h9 : p < 3 := hp; omega) with rfl | rfl | rfl
    · have e20 : az.eval (.tmp 20) = .int .u64 (K : Int) := hO 20 rfl
      exact po_call 21 71 #[Operand.tmp 20] #[24] _ HWF hJ rfl hE (HN.out _) rfl rfl rfl rfl rfl Try.func71 (by kernel_rfl) (by kernel_rfl) (by simp only [List.map_toArray, List.map_cons, List.map_nil, eval_const, eval_func, e20] <;> rfl)
    · have e17 : az.eval (.tmp 17) = .agg (arrOf 12 (qT a)) := hO 17 rfl
      have e18 : az.eval (.tmp 18) = .agg (arrOf 4 (ewF K)) := hO 18 rfl
      have e21 := (hS 0 21 rfl (hdn 0 (by decide)) (Nat.le_of_ble_eq_true rfl)).trans (hJ.says (hdn 0 (by decide)) rfl)
      exact po_call 22 60 #[Operand.func 22, Operand.tmp 17, Operand.func 61, Operand.tmp 18, Operand.tmp 21] #[59, 29, 87, 45, 3] _ HWF hJ rfl hE (pOften_any a K sz _ Ha.out HLL.out) rfl rfl rfl rfl rfl Try.func60 (by kernel_rfl) (by kernel_rfl) (by simp only [List.map_toArray, List.map_cons, List.map_nil, eval_const, eval_func, e17, e18, e21] <;> rfl)
    · have e22 := (hS 1 22 rfl (hdn 1 (by decide)) (Nat.le_of_ble_eq_true rfl)).trans (hJ.says (hdn 1 (by decide)) rfl)
      exact po_storeOld 0 (.tmp 4) (.tmp 22) 29 b_t4 12 _ (by rw [hm]; exact hp) hmp hJ rfl (show 0 < 1 by decide) rfl rfl rfl rfl rfl (World.rowIs.lt r_t4) (by simp) (by kernel_rfl) po_ne1 hE rfl rfl rfl rfl rfl (hO 4 rfl) e22 arrQ (fun j _ => qF_one _ _ _ j)
  · have q0 := hJ.told 0 (by decide) rfl
    have q1 := hJ.told 1 (by decide) rfl
    rw [putO_true _ _ _ _ _ rfl]
    simp only [putA, Nat.zero_add, Nat.reduceAdd]
    rw [q0, q1]
    simp only [Act.put, List.setIfInBounds_toArray, List.set_cons_zero, List.set_cons_succ]
    refine po_end ?_
    replace r_t2 := Keep.row hE r_t2 (cont1 n_t2_t4)
    replace r_t4 : wa.rowIs b_t4 29 12 (qT (qOft a K sz)) := hJ.old 0 (show 0 < 1 by decide) (show 2 < 3 by decide)
    replace r_t5 := Keep.row hE r_t5 (cont1 (Ne.symm n_t4_t5))
    have Bw8 := hE.below Bw7 (HGS.out _ Bw7) (keep_all1 l_t4)
    clear Bw7 hE hJ HWF q0 q1
    go_wp2
    exact ret_cell_as _ rfl arrQ r_t4 rfl (by omega) (fun _ _ => rfl) rfl ⟨by rw [HG.out], Bw8⟩
def qSmall (t : Nat × Nat × Nat) : Bool := qSame (qTim t 8) (0, 0, 0)
theorem RQ.small {P : Nat × Nat} {t : Nat × Nat × Nat} (h : RQ P t) : qSmall t = decide (mulE 8 P = ptO) := (h.tim (by decide)).same RQ.none
theorem pTimes_8 (a : Nat × Nat × Nat) (w : World) (Ha : LtT a) : Calls Try.prog 28 #[.agg (arrOf 12 (qT a)), .int .i64 8] w fun e w' => e = .returned (.agg (arrOf 12 (qT (qTim a 8)))) ∧ Below w.heap.size w w' := pTimes_in a 8 w Ha (by decide)
set_option maxHeartbeats 4000000 in
set_option maxRecDepth 10000 in
theorem qTSmall_any (a : Nat × Nat × Nat) (w : World) (Ha : LtT a) : Calls Try.prog 14 #[.agg (arrOf 12 (qT a))] w fun e w' => e = .returned (.bool (qSmall a)) ∧ Below w.heap.size w w' := by
  have Bw0 := Below.refl w.heap.size w
  have HGS : Hid (∀ wq : World, Below w.heap.size w wq → w.heap.size ≤ wq.heap.size) := Lib.hid fun wq h => h.size
  replace Ha := Lib.hid Ha
  go_enter Try.func14, Try.ntmps14
  go_wp2_with (first
    | (have hgo := Bw0; clear hgo
       refine wpList_box_row rfl 29 (.tmp 0) rfl 12 (qT a) rfl ?_
       intro b_t1 w1 lk r_t1 kk
       have l_t1 := Nat.le_trans (HGS.out _ Bw0) lk
       have Bw1 := Bw0.trans (kk.mono (HGS.out _ Bw0))
       clear Bw0 kk lk)
    | (have hgo := Bw1; clear hgo
       refine wpList_load_as rfl 29 (.tmp 1) rfl 12 (qT a) arrQ r_t1 rfl (by omega) (fun i hi => by rw [Nat.zero_add]) ?_
       have Bw2 := Bw1
       clear Bw1)
    | (have hgo := Bw2; clear hgo
       go_at_call 28
       refine (pTimes_8 a _ Ha.out).mono ?_
       rintro e w4 ⟨rfl, kk⟩
       replace r_t1 := World.rowIs.of_block r_t1 (kk.block _ (World.rowIs.lt r_t1))
       have Bw3 := Bw2.trans (kk.mono (HGS.out _ Bw2))
       clear Bw2 kk)
    | (have hgo := Bw3; clear hgo
       refine wpList_build_arr rfl 29 #[] rfl (arrOf 12 (qT (0, 0, 0))) (by simp only [List.map_toArray, List.map_cons, List.map_nil]; exact builtQT0) ?_
       have Bw4 := Bw3
       clear Bw3)
    | (have hgo := Bw4; clear hgo
       go_at_call 26
       refine (qTSame_any (qTim a 8) (0, 0, 0) _ (LtT.oft _ _ _) LtT.none).mono ?_
       rintro e w6 ⟨rfl, kk⟩
       replace r_t1 := World.rowIs.of_block r_t1 (kk.block _ (World.rowIs.lt r_t1))
       have Bw5 := Bw4.trans (kk.mono (HGS.out _ Bw4))
       clear Bw4 kk))
  go_ret
  exact ⟨rfl, Bw5⟩
end Go.Proofs.Ytphkmaihnbhgoaa

/- The program's points: their form; what stands beside y. -/
namespace Go.Proofs.Ytphkmaihnbhgoaa
open Go.RowKit Go.Deep
set_option linter.unusedSimpArgs false
set_option linter.unusedVariables false

theorem oddB_any (A : Nat) (b : Bool) (w : World) (h : decide (A % 2 = 1) = b) : Calls Try.prog 57 #[.agg (arrOf 4 (ewF A))] w fun e w' => e = .returned (.bool b) ∧ Below w.heap.size w w' := by
  have g := odd_any A w
  rwa [h] at g
theorem high_plus (C : Nat) : (C + top) / 256 ^ 31 = C / 256 ^ 31 + 128 := by
  rw [show top = 128 * 256 ^ 31 by decide +kernel, Nat.add_mul_div_right _ _ (by decide)]
theorem bes_call (Y : Nat) (w : World) (hY : Y < p25) : Calls Try.prog 78 #[.agg (arrOf 4 (ewF (mulP (mulP (subP p25 (mulP Y Y) 1) 121666) (invP (subP p25 121666 (mulP (mulP Y Y) 121665))))))] w fun e w' =>
    e = .returned (.tuple #[.agg (arrOf 4 (ewF ((decX Y).getD 0))), .int .i64 (rootE (decX Y))]) ∧ Below w.heap.size w w' := by
  have g := root_any (besS Y) w (mulP_lt _ _)
  rw [bes_root hY] at g
  exact g
set_option maxHeartbeats 4000000 in
set_option maxRecDepth 10000 in
theorem qEncode_any (X Y Z : Nat) (w : World) (HX : X < p25) (HY : Y < p25) (HZ : Z < p25) : Calls Try.prog 13 #[.agg (arrOf 12 (qF X Y Z))] w fun e w' => ∃ v, e = .returned v ∧ Owns w' w.heap.size v (litB (encQ (X, Y, Z)) 32) ∧ Below w.heap.size w w' := by
  have Bw0 := Below.refl w.heap.size w
  have HGS : Hid (∀ wq : World, Below w.heap.size w wq → w.heap.size ≤ wq.heap.size) := Lib.hid fun wq h => h.size
  replace HX := Lib.hid HX
  replace HY := Lib.hid HY
  replace HZ := Lib.hid HZ
  rcases hA : fullT (X, Y, Z) with ⟨x1, y1, z1⟩
  obtain ⟨hx1, hy1, hz1⟩ := (full_vlt hA HX.out HY.out HZ.out)
  have Hx1 := Lib.hid hx1
  have Hy1 := Lib.hid hy1
  have Hz1 := Lib.hid hz1
  clear hx1 hy1 hz1
  replace hA := Lib.hid hA
  obtain ⟨A, hA1⟩ := nat_var (mulP x1 (invP z1))
  obtain ⟨C, hC⟩ := nat_var (mulP y1 (invP z1))
  have HC : Hid (C < p25) := Lib.hid (by rw [hC]; exact mulP_lt _ _)
  have HG : Hid (encQ (X, Y, Z) = C + A % 2 * top) := Lib.hid (by unfold encQ encA; rw [hA.out, ← hA1, ← hC])
  have HMX := Lib.hid fun w => mul_any x1 (invP z1) w Hx1.out (invP_lt _)
  have HMY := Lib.hid fun w => mul_any y1 (invP z1) w Hy1.out (invP_lt _)
  rw [← hA1] at HMX
  rw [← hC] at HMY
  rw [HG.out]
  have hql := high_lt C HC.out
  obtain ⟨q, hq⟩ := nat_var (C / 256 ^ 31)
  rw [← hq] at hql
  have hor := or_128 q hql
  have HQ := Lib.hid hq
  clear hA1 hC hq HG
  by_cases h2 : A % 2 = 1
  · have H2 := Lib.hid (decide_eq_true h2)
    rw [h2, Nat.one_mul]
    clear h2
    go_enter Try.func13, Try.ntmps13
    go_wp2_with (first
      | (have hgo := Bw0; clear hgo
         refine wpList_box_row rfl 29 (.tmp 0) rfl 12 (qF X Y Z) rfl ?_
         intro b_t1 w1 lk r_t1 kk
         have l_t1 := Nat.le_trans (HGS.out _ Bw0) lk
         have Bw1 := Bw0.trans (kk.mono (HGS.out _ Bw0))
         clear Bw0 kk lk)
      | (have hgo := Bw1; clear hgo
         refine wpList_load_as rfl 29 (.tmp 1) rfl 12 (qF X Y Z) arrQ r_t1 rfl (by omega) (fun i hi => by rw [Nat.zero_add]) ?_
         have Bw2 := Bw1
         clear Bw1)
      | (have hgo := Bw2; clear hgo
         go_at_call 53
         refine (full_v X Y Z _ hA.out HX.out HY.out HZ.out).mono ?_
         rintro e w4 ⟨rfl, kk⟩
         replace r_t1 := World.rowIs.of_block r_t1 (kk.block _ (World.rowIs.lt r_t1))
         have Bw3 := Bw2.trans (kk.mono (HGS.out _ Bw2))
         clear Bw2 kk)
      | (have hgo := Bw3; clear hgo
         refine wpList_store_as rfl 29 (.tmp 1) (.tmp 6) rfl 12 (qF x1 y1 z1) arrQ r_t1 rfl rfl (by omega) (fun j _ => qF_one _ _ _ j) (fun i hi => putN_whole hi) ?_
         intro w5 q gk
         replace r_t1 := q
         have Bw4 := Bw3.grown gk (HGS.out _ Bw3) (by intro k hk; cases hk; exact l_t1)
         clear Bw3 gk q)
      | (have hgo := Bw4; clear hgo
         refine wpList_load_as rfl 27 (.tmp 7) rfl 4 (ewF z1) arrE r_t1 rfl (by omega) (fun i hi => qF_z _ _ _ i hi) ?_
         have Bw5 := Bw4
         clear Bw4)
      | (have hgo := Bw5; clear hgo
         go_at_call 54
         refine (inv_any z1 _ Hz1.out).mono ?_
         rintro e w8 ⟨rfl, kk⟩
         replace r_t1 := World.rowIs.of_block r_t1 (kk.block _ (World.rowIs.lt r_t1))
         have Bw6 := Bw5.trans (kk.mono (HGS.out _ Bw5))
         clear Bw5 kk)
      | (have hgo := Bw6; clear hgo
         refine wpList_alloc_row rfl 27 rfl 4 (u64f fun _ => 0) zeroE ?_
         intro b_t3 w9 lk r_t3 kk
         have n_t1_t3 : b_t1 ≠ b_t3 := Nat.ne_of_lt (Nat.lt_of_lt_of_le (World.rowIs.lt r_t1) lk)
         have l_t3 := Nat.le_trans (HGS.out _ Bw6) lk
         replace r_t1 := World.rowIs.of_block r_t1 (kk.block _ (World.rowIs.lt r_t1))
         have Bw7 := Bw6.trans (kk.mono (HGS.out _ Bw6))
         clear Bw6 kk lk)
      | (have hgo := Bw7; clear hgo
         refine wpList_store_as rfl 27 (.tmp 3) (.tmp 9) rfl 4 (ewF (invP z1)) arrE r_t3 rfl rfl (by omega) (fun _ _ => rfl) (fun i hi => putN_whole hi) ?_
         intro w10 q gk
         replace r_t1 := gb_rowIs r_t1 gk n_t1_t3
         replace r_t3 := q
         have Bw8 := Bw7.grown gk (HGS.out _ Bw7) (by intro k hk; cases hk; exact l_t3)
         clear Bw7 gk q)
      | (have hgo := Bw8; clear hgo
         refine wpList_load_as rfl 27 (.tmp 10) rfl 4 (ewF y1) arrE r_t1 rfl (by omega) (fun i hi => qF_y _ _ _ i hi) ?_
         have Bw9 := Bw8
         clear Bw8)
      | (have hgo := Bw9; clear hgo
         refine wpList_load_as rfl 27 (.tmp 3) rfl 4 (ewF (invP z1)) arrE r_t3 rfl (by omega) (fun i hi => by rw [Nat.zero_add]) ?_
         have Bw10 := Bw9
         clear Bw9)
      | (have hgo := Bw10; clear hgo
         go_at_call 55
         refine (HMY.out _).mono ?_
         rintro e w14 ⟨rfl, kk⟩
         replace r_t1 := World.rowIs.of_block r_t1 (kk.block _ (World.rowIs.lt r_t1))
         replace r_t3 := World.rowIs.of_block r_t3 (kk.block _ (World.rowIs.lt r_t3))
         have Bw11 := Bw10.trans (kk.mono (HGS.out _ Bw10))
         clear Bw10 kk)
      | (have hgo := Bw11; clear hgo
         go_at_call 56
         refine (bytes_any C _).mono ?_
         rintro e w15 ⟨v_s14, rfl, o_s14, kk⟩
         replace o_s14 := o_s14.lower (HGS.out _ Bw11)
         replace r_t1 := World.rowIs.of_block r_t1 (kk.block _ (World.rowIs.lt r_t1))
         replace r_t3 := World.rowIs.of_block r_t3 (kk.block _ (World.rowIs.lt r_t3))
         have Bw12 := Bw11.trans (kk.mono (HGS.out _ Bw11))
         clear Bw11 kk
         obtain ⟨g, cap, hv, hg, hgs, _, _⟩ := o_s14.open_cons (by rw [litB_length]; decide)
         rw [litB_length] at hv
         subst hv
         have HCAP : Hid (32 ≤ cap) := Lib.hid (owns_cap o_s14)
         have HGB := Lib.hid hg
         clear hg hgs)
      | (have hgo := Bw12; clear hgo
         refine wpList_load_as rfl 27 (.tmp 15) rfl 4 (ewF x1) arrE r_t1 rfl (by omega) (fun i hi => qF_x _ _ _ i hi) ?_
         have Bw13 := Bw12
         clear Bw12)
      | (have hgo := Bw13; clear hgo
         refine wpList_load_as rfl 27 (.tmp 3) rfl 4 (ewF (invP z1)) arrE r_t3 rfl (by omega) (fun i hi => by rw [Nat.zero_add]) ?_
         have Bw14 := Bw13
         clear Bw13)
      | (have hgo := Bw14; clear hgo
         go_at_call 55
         refine (HMX.out _).mono ?_
         rintro e w19 ⟨rfl, kk⟩
         replace r_t1 := World.rowIs.of_block r_t1 (kk.block _ (World.rowIs.lt r_t1))
         replace r_t3 := World.rowIs.of_block r_t3 (kk.block _ (World.rowIs.lt r_t3))
         replace o_s14 := Owns.belowJ o_s14 kk
         have Bw15 := Bw14.trans (kk.mono (HGS.out _ Bw14))
         clear Bw14 kk)
      | (have hgo := Bw15; clear hgo
         go_at_call 57
         refine (oddB_any A true _ H2.out).mono ?_
         rintro e w20 ⟨rfl, kk⟩
         replace r_t1 := World.rowIs.of_block r_t1 (kk.block _ (World.rowIs.lt r_t1))
         replace r_t3 := World.rowIs.of_block r_t3 (kk.block _ (World.rowIs.lt r_t3))
         replace o_s14 := Owns.belowJ o_s14 kk
         have Bw16 := Bw15.trans (kk.mono (HGS.out _ Bw15))
         clear Bw15 kk)
      | (have hgo := Bw16; clear hgo
         refine wpList_load_byte rfl (.tmp 21) rfl 31 q o_s14 (by rw [litB_length]) (by rw [litB_length]; decide) rfl (by rw [litB_at, high_old C HC.out]; exact HQ.out.symm) ?_
         have Bw17 := Bw16
         clear Bw16)
      | (have hgo := Bw17; clear hgo
         refine wpList_store_byte rfl (.tmp 24) (.tmp 23) rfl 31 (q + 128) o_s14 (by rw [litB_length]) HCAP.out (by rw [litB_length]; decide) rfl rfl (by omega) ?_
         intro w90 o90 g90
         have Bw18 := Bw17.grown g90 (HGS.out _ Bw17) (by intro k hk; cases hk; exact HGB.out)
         have O9 : Owns w90 w.heap.size (.slice (some ⟨g, 0, none⟩) 32 cap) (litB (C + top) 32) := by rw [HQ.out, ← high_plus, high_set] at o90; exact o90
         clear Bw17 g90 o90 o_s14))
    go_ret
    exact ⟨_, rfl, O9, Bw18⟩
  · have H2 := Lib.hid (decide_eq_false h2)
    rw [show A % 2 = 0 by omega, Nat.zero_mul, Nat.add_zero]
    clear h2
    go_enter Try.func13, Try.ntmps13
    go_wp2_with (first
      | (have hgo := Bw0; clear hgo
         refine wpList_box_row rfl 29 (.tmp 0) rfl 12 (qF X Y Z) rfl ?_
         intro b_t1 w1 lk r_t1 kk
         have l_t1 := Nat.le_trans (HGS.out _ Bw0) lk
         have Bw1 := Bw0.trans (kk.mono (HGS.out _ Bw0))
         clear Bw0 kk lk)
      | (have hgo := Bw1; clear hgo
         refine wpList_load_as rfl 29 (.tmp 1) rfl 12 (qF X Y Z) arrQ r_t1 rfl (by omega) (fun i hi => by rw [Nat.zero_add]) ?_
         have Bw2 := Bw1
         clear Bw1)
      | (have hgo := Bw2; clear hgo
         go_at_call 53
         refine (full_v X Y Z _ hA.out HX.out HY.out HZ.out).mono ?_
         rintro e w4 ⟨rfl, kk⟩
         replace r_t1 := World.rowIs.of_block r_t1 (kk.block _ (World.rowIs.lt r_t1))
         have Bw3 := Bw2.trans (kk.mono (HGS.out _ Bw2))
         clear Bw2 kk)
      | (have hgo := Bw3; clear hgo
         refine wpList_store_as rfl 29 (.tmp 1) (.tmp 6) rfl 12 (qF x1 y1 z1) arrQ r_t1 rfl rfl (by omega) (fun j _ => qF_one _ _ _ j) (fun i hi => putN_whole hi) ?_
         intro w5 q gk
         replace r_t1 := q
         have Bw4 := Bw3.grown gk (HGS.out _ Bw3) (by intro k hk; cases hk; exact l_t1)
         clear Bw3 gk q)
      | (have hgo := Bw4; clear hgo
         refine wpList_load_as rfl 27 (.tmp 7) rfl 4 (ewF z1) arrE r_t1 rfl (by omega) (fun i hi => qF_z _ _ _ i hi) ?_
         have Bw5 := Bw4
         clear Bw4)
      | (have hgo := Bw5; clear hgo
         go_at_call 54
         refine (inv_any z1 _ Hz1.out).mono ?_
         rintro e w8 ⟨rfl, kk⟩
         replace r_t1 := World.rowIs.of_block r_t1 (kk.block _ (World.rowIs.lt r_t1))
         have Bw6 := Bw5.trans (kk.mono (HGS.out _ Bw5))
         clear Bw5 kk)
      | (have hgo := Bw6; clear hgo
         refine wpList_alloc_row rfl 27 rfl 4 (u64f fun _ => 0) zeroE ?_
         intro b_t3 w9 lk r_t3 kk
         have n_t1_t3 : b_t1 ≠ b_t3 := Nat.ne_of_lt (Nat.lt_of_lt_of_le (World.rowIs.lt r_t1) lk)
         have l_t3 := Nat.le_trans (HGS.out _ Bw6) lk
         replace r_t1 := World.rowIs.of_block r_t1 (kk.block _ (World.rowIs.lt r_t1))
         have Bw7 := Bw6.trans (kk.mono (HGS.out _ Bw6))
         clear Bw6 kk lk)
      | (have hgo := Bw7; clear hgo
         refine wpList_store_as rfl 27 (.tmp 3) (.tmp 9) rfl 4 (ewF (invP z1)) arrE r_t3 rfl rfl (by omega) (fun _ _ => rfl) (fun i hi => putN_whole hi) ?_
         intro w10 q gk
         replace r_t1 := gb_rowIs r_t1 gk n_t1_t3
         replace r_t3 := q
         have Bw8 := Bw7.grown gk (HGS.out _ Bw7) (by intro k hk; cases hk; exact l_t3)
         clear Bw7 gk q)
      | (have hgo := Bw8; clear hgo
         refine wpList_load_as rfl 27 (.tmp 10) rfl 4 (ewF y1) arrE r_t1 rfl (by omega) (fun i hi => qF_y _ _ _ i hi) ?_
         have Bw9 := Bw8
         clear Bw8)
      | (have hgo := Bw9; clear hgo
         refine wpList_load_as rfl 27 (.tmp 3) rfl 4 (ewF (invP z1)) arrE r_t3 rfl (by omega) (fun i hi => by rw [Nat.zero_add]) ?_
         have Bw10 := Bw9
         clear Bw9)
      | (have hgo := Bw10; clear hgo
         go_at_call 55
         refine (HMY.out _).mono ?_
         rintro e w14 ⟨rfl, kk⟩
         replace r_t1 := World.rowIs.of_block r_t1 (kk.block _ (World.rowIs.lt r_t1))
         replace r_t3 := World.rowIs.of_block r_t3 (kk.block _ (World.rowIs.lt r_t3))
         have Bw11 := Bw10.trans (kk.mono (HGS.out _ Bw10))
         clear Bw10 kk)
      | (have hgo := Bw11; clear hgo
         go_at_call 56
         refine (bytes_any C _).mono ?_
         rintro e w15 ⟨v_s14, rfl, o_s14, kk⟩
         replace o_s14 := o_s14.lower (HGS.out _ Bw11)
         replace r_t1 := World.rowIs.of_block r_t1 (kk.block _ (World.rowIs.lt r_t1))
         replace r_t3 := World.rowIs.of_block r_t3 (kk.block _ (World.rowIs.lt r_t3))
         have Bw12 := Bw11.trans (kk.mono (HGS.out _ Bw11))
         clear Bw11 kk
         obtain ⟨g, cap, hv, hg, hgs, _, _⟩ := o_s14.open_cons (by rw [litB_length]; decide)
         rw [litB_length] at hv
         subst hv
         have HCAP : Hid (32 ≤ cap) := Lib.hid (owns_cap o_s14)
         have HGB := Lib.hid hg
         clear hg hgs)
      | (have hgo := Bw12; clear hgo
         refine wpList_load_as rfl 27 (.tmp 15) rfl 4 (ewF x1) arrE r_t1 rfl (by omega) (fun i hi => qF_x _ _ _ i hi) ?_
         have Bw13 := Bw12
         clear Bw12)
      | (have hgo := Bw13; clear hgo
         refine wpList_load_as rfl 27 (.tmp 3) rfl 4 (ewF (invP z1)) arrE r_t3 rfl (by omega) (fun i hi => by rw [Nat.zero_add]) ?_
         have Bw14 := Bw13
         clear Bw13)
      | (have hgo := Bw14; clear hgo
         go_at_call 55
         refine (HMX.out _).mono ?_
         rintro e w19 ⟨rfl, kk⟩
         replace r_t1 := World.rowIs.of_block r_t1 (kk.block _ (World.rowIs.lt r_t1))
         replace r_t3 := World.rowIs.of_block r_t3 (kk.block _ (World.rowIs.lt r_t3))
         replace o_s14 := Owns.belowJ o_s14 kk
         have Bw15 := Bw14.trans (kk.mono (HGS.out _ Bw14))
         clear Bw14 kk)
      | (have hgo := Bw15; clear hgo
         go_at_call 57
         refine (oddB_any A false _ H2.out).mono ?_
         rintro e w20 ⟨rfl, kk⟩
         replace r_t1 := World.rowIs.of_block r_t1 (kk.block _ (World.rowIs.lt r_t1))
         replace r_t3 := World.rowIs.of_block r_t3 (kk.block _ (World.rowIs.lt r_t3))
         replace o_s14 := Owns.belowJ o_s14 kk
         have Bw16 := Bw15.trans (kk.mono (HGS.out _ Bw15))
         clear Bw15 kk))
    go_ret
    exact ⟨_, rfl, o_s14, Bw16⟩
set_option maxHeartbeats 4000000 in
set_option maxRecDepth 10000 in
theorem beside_any (Y : Nat) (w : World) (HY : Y < p25) : Calls Try.prog 37 #[.agg (arrOf 4 (ewF Y))] w fun e w' => e = .returned (.tuple #[.agg (arrOf 4 (ewF ((decX Y).getD 0))), .int .i64 (rootE (decX Y))]) ∧ Below w.heap.size w w' := by
  have Bw0 := Below.refl w.heap.size w
  have HGS : Hid (∀ wq : World, Below w.heap.size w wq → w.heap.size ≤ wq.heap.size) := Lib.hid fun wq h => h.size
  replace HY := Lib.hid HY
  have HRT := Lib.hid fun w => bes_call Y w HY.out
  obtain ⟨R, hR⟩ := nat_var ((decX Y).getD 0)
  obtain ⟨ev, hev⟩ : ∃ ev, ev = rootE (decX Y) := ⟨_, rfl⟩
  rw [← hR, ← hev] at HRT
  rw [← hR, ← hev]
  clear hR hev
  go_enter Try.func37, Try.ntmps37
  go_wp2_with (first
    | (have hgo := Bw0; clear hgo
       refine wpList_box_row rfl 27 (.tmp 0) rfl 4 (ewF Y) rfl ?_
       intro b_t1 w1 lk r_t1 kk
       have l_t1 := Nat.le_trans (HGS.out _ Bw0) lk
       have Bw1 := Bw0.trans (kk.mono (HGS.out _ Bw0))
       clear Bw0 kk lk)
    | (have hgo := Bw1; clear hgo
       refine wpList_alloc_row rfl 27 rfl 4 (u64f fun _ => 0) zeroE ?_
       intro b_t2 w2 lk r_t2 kk
       have n_t1_t2 : b_t1 ≠ b_t2 := Nat.ne_of_lt (Nat.lt_of_lt_of_le (World.rowIs.lt r_t1) lk)
       have l_t2 := Nat.le_trans (HGS.out _ Bw1) lk
       replace r_t1 := World.rowIs.of_block r_t1 (kk.block _ (World.rowIs.lt r_t1))
       have Bw2 := Bw1.trans (kk.mono (HGS.out _ Bw1))
       clear Bw1 kk lk)
    | (have hgo := Bw2; clear hgo
       refine wpList_load_as rfl 27 (.tmp 1) rfl 4 (ewF Y) arrE r_t1 rfl (by omega) (fun i hi => by rw [Nat.zero_add]) ?_
       have Bw3 := Bw2
       clear Bw2)
    | (have hgo := Bw3; clear hgo
       refine wpList_load_as rfl 27 (.tmp 1) rfl 4 (ewF Y) arrE r_t1 rfl (by omega) (fun i hi => by rw [Nat.zero_add]) ?_
       have Bw4 := Bw3
       clear Bw3)
    | (have hgo := Bw4; clear hgo
       go_at_call 55
       refine (mul_any Y Y _ HY.out HY.out).mono ?_
       rintro e w6 ⟨rfl, kk⟩
       replace r_t1 := World.rowIs.of_block r_t1 (kk.block _ (World.rowIs.lt r_t1))
       replace r_t2 := World.rowIs.of_block r_t2 (kk.block _ (World.rowIs.lt r_t2))
       have Bw5 := Bw4.trans (kk.mono (HGS.out _ Bw4))
       clear Bw4 kk)
    | (have hgo := Bw5; clear hgo
       refine wpList_alloc_row rfl 27 rfl 4 (u64f fun _ => 0) zeroE ?_
       intro b_t4 w7 lk r_t4 kk
       have n_t1_t4 : b_t1 ≠ b_t4 := Nat.ne_of_lt (Nat.lt_of_lt_of_le (World.rowIs.lt r_t1) lk)
       have n_t2_t4 : b_t2 ≠ b_t4 := Nat.ne_of_lt (Nat.lt_of_lt_of_le (World.rowIs.lt r_t2) lk)
       have l_t4 := Nat.le_trans (HGS.out _ Bw5) lk
       replace r_t1 := World.rowIs.of_block r_t1 (kk.block _ (World.rowIs.lt r_t1))
       replace r_t2 := World.rowIs.of_block r_t2 (kk.block _ (World.rowIs.lt r_t2))
       have Bw6 := Bw5.trans (kk.mono (HGS.out _ Bw5))
       clear Bw5 kk lk)
    | (have hgo := Bw6; clear hgo
       refine wpList_store_as rfl 27 (.tmp 4) (.tmp 9) rfl 4 (ewF (mulP Y Y)) arrE r_t4 rfl rfl (by omega) (fun _ _ => rfl) (fun i hi => putN_whole hi) ?_
       intro w8 q gk
       replace r_t1 := gb_rowIs r_t1 gk n_t1_t4
       replace r_t2 := gb_rowIs r_t2 gk n_t2_t4
       replace r_t4 := q
       have Bw7 := Bw6.grown gk (HGS.out _ Bw6) (by intro k hk; cases hk; exact l_t4)
       clear Bw6 gk q))
  have Bw8 := Bw7.drew
  replace r_t1 := World.rowIs.drew r_t1
  replace r_t2 := World.rowIs.drew r_t2
  replace r_t4 := World.rowIs.drew r_t4
  clear Bw7
  refine wp_region_po (Keep []) (Keep.refl _) (fun _ _ _ h1 h2 => h1.trans h2) (.rd 1 .done) #[false, true, false, false, false, false, false] [0, 2, 3, 4, 5, 6] [some 10, some 12, some 13, some 14, some 5, none] [[], [0], [1], [0, 2], [], [0, 1, 2, 3, 4]] [(0, []), (1, []), (2, [0]), (3, [1, 2, 2]), (4, [0, 3, 3]), (5, []), (6, [5, 4, 4, 0, 1, 2, 3, 4, 5])] 2 (by as_aux_lemma => kernel_rfl) (by as_aux_lemma => kernel_rfl) (by decide) (by as_aux_lemma => kernel_rfl) (by as_aux_lemma => kernel_rfl) (by as_aux_lemma => kernel_rfl) rfl (fun d _ _ _ _ h => by cases d <;> exact h) ?_
  refine lintz_pure 11 (Op.load 27 (Operand.tmp 4)) 27 (.agg (arrOf 4 (ewF (mulP Y Y)))) rfl rfl rfl rfl rfl (fun w0 hb => by exact exec_load_as _ _ _ _ (ewF (mulP Y Y)) rfl arrE (Keep.row hb r_t4 rfl) (by omega) (fun i hi => by rw [Nat.zero_add])) ?_
  simp only [Act.put, List.setIfInBounds_toArray, List.set_cons_zero, List.set_cons_succ]
  refine lintz_leaf ?_
  have HWF : poWf [.val (.agg (arrOf 4 (ewF 121666))), .val (.agg (arrOf 4 (ewF 121665))), .val (.agg (arrOf 4 (ewF (mulP (mulP Y Y) 121665)))), .val (.agg (arrOf 4 (ewF (subP p25 121666 (mulP (mulP Y Y) 121665))))), .row 27 4 (u64f fun _ => 0) 5 (ewF (subP p25 121666 (mulP (mulP Y Y) 121665))), .nil] [] = true := by as_aux_lemma => kernel_rfl
  refine ⟨JG [.val (.agg (arrOf 4 (ewF 121666))), .val (.agg (arrOf 4 (ewF 121665))), .val (.agg (arrOf 4 (ewF (mulP (mulP Y Y) 121665)))), .val (.agg (arrOf 4 (ewF (subP p25 121666 (mulP (mulP Y Y) 121665))))), .row 27 4 (u64f fun _ => 0) 5 (ewF (subP p25 121666 (mulP (mulP Y Y) 121665))), .nil] [] _, JG.start (Nat.le_refl _) (fun i hi => absurd hi (Nat.not_lt_zero _)), fun m gz wa p az hp hm hmp hcl hdn hE hJ hS hO => ?_, fun gz wa hE hJ => ?_⟩
  · rcases (show p = 0 ∨ p = 1 ∨ p = 2 ∨ p = 3 ∨ p = 4 ∨ p = 5 by have h9 : p < 6 := hp; omega) with rfl | rfl | rfl | rfl | rfl | rfl
    · exact po_call 10 41 #[Operand.const (Value.int IntKind.u64 121666)] #[24] _ HWF hJ rfl hE (small_any 121666 _ (by decide)) rfl rfl rfl rfl rfl Try.func41 (by kernel_rfl) (by kernel_rfl) (by simp only [List.map_toArray, List.map_cons, List.map_nil, eval_const, eval_func] <;> rfl)
    · exact po_call 12 41 #[Operand.const (Value.int IntKind.u64 121665)] #[24] _ HWF hJ rfl hE (small_any 121665 _ (by decide)) rfl rfl rfl rfl rfl Try.func41 (by kernel_rfl) (by kernel_rfl) (by simp only [List.map_toArray, List.map_cons, List.map_nil, eval_const, eval_func] <;> rfl)
    · have e11 : az.eval (.tmp 11) = .agg (arrOf 4 (ewF (mulP Y Y))) := hO 11 rfl
      have e12 := (hS 1 12 rfl (hdn 1 (by decide)) (Nat.le_of_ble_eq_true rfl)).trans (hJ.says (hdn 1 (by decide)) rfl)
      exact po_call 13 55 #[Operand.tmp 11, Operand.tmp 12] #[27, 27] _ HWF hJ rfl hE (mul_any (mulP Y Y) 121665 _ (mulP_lt _ _) (by decide +kernel)) rfl rfl rfl rfl rfl Try.func55 (by kernel_rfl) (by kernel_rfl) (by simp only [List.map_toArray, List.map_cons, List.map_nil, eval_const, eval_func, e11, e12] <;> rfl)
    · have e10 := (hS 0 10 rfl (hdn 0 (by decide)) (Nat.le_of_ble_eq_true rfl)).trans (hJ.says (hdn 0 (by decide)) rfl)
      have e13 := (hS 2 13 rfl (hdn 2 (by decide)) (Nat.le_of_ble_eq_true rfl)).trans (hJ.says (hdn 2 (by decide)) rfl)
      exact po_call 14 69 #[Operand.tmp 10, Operand.tmp 13] #[27, 27] _ HWF hJ rfl hE (sub_any 121666 (mulP (mulP Y Y) 121665) _ (by decide +kernel) (mulP_lt _ _)) rfl rfl rfl rfl rfl Try.func69 (by kernel_rfl) (by kernel_rfl) (by simp only [List.map_toArray, List.map_cons, List.map_nil, eval_const, eval_func, e10, e13] <;> rfl)
    · exact po_alloc 5 _ 27 4 (u64f fun _ => 0) _ _ HWF hJ rfl (po_notyet hcl hmp (by rw [hm]; exact hp) (by decide)) hE rfl rfl rfl rfl rfl rfl zeroE
    · have e14 := (hS 3 14 rfl (hdn 3 (by decide)) (Nat.le_of_ble_eq_true rfl)).trans (hJ.says (hdn 3 (by decide)) rfl)
      exact po_storeRow 4 (.tmp 5) (.tmp 14) 27 4 _ _ (by rw [hm]; exact hp) hmp hJ rfl rfl (hdn 4 (by decide)) (by kernel_rfl) (fun i hi => absurd hi (Nat.not_lt_zero _)) hE rfl rfl rfl rfl rfl (hS 4 5 rfl (hdn 4 (by decide)) (Nat.le_of_ble_eq_true rfl)) e14 arrE (fun _ _ => rfl)
  · have q0 := hJ.told 0 (by decide) rfl
    have q1 := hJ.told 1 (by decide) rfl
    have q2 := hJ.told 2 (by decide) rfl
    have q3 := hJ.told 3 (by decide) rfl
    obtain ⟨b_t5, p_t5, lk_t5, r_t5, d_t5⟩ := hJ.row 4 (by decide) rfl (by decide)
    rw [putO_true _ _ _ _ _ rfl]
    simp only [putA, Nat.zero_add, Nat.reduceAdd]
    rw [q0, q1, q2, q3, p_t5]
    simp only [Act.put, List.setIfInBounds_toArray, List.set_cons_zero, List.set_cons_succ]
    refine po_end ?_
    have n_t1_t5 : b_t1 ≠ b_t5 := Nat.ne_of_lt (Nat.lt_of_lt_of_le (World.rowIs.lt r_t1) lk_t5)
    have n_t2_t5 : b_t2 ≠ b_t5 := Nat.ne_of_lt (Nat.lt_of_lt_of_le (World.rowIs.lt r_t2) lk_t5)
    have n_t4_t5 : b_t4 ≠ b_t5 := Nat.ne_of_lt (Nat.lt_of_lt_of_le (World.rowIs.lt r_t4) lk_t5)
    have l_t5 := Nat.le_trans (HGS.out _ Bw8) lk_t5
    replace r_t1 := Keep.row hE r_t1 rfl
    replace r_t2 := Keep.row hE r_t2 rfl
    replace r_t4 := Keep.row hE r_t4 rfl
    have Bw9 := hE.below Bw8 (HGS.out _ Bw8) rfl
    clear Bw8 hE hJ HWF q0 q1 q2 q3 p_t5 lk_t5 d_t5
    go_wp2
    have Bw10 := Bw9.drew
    replace r_t1 := World.rowIs.drew r_t1
    replace r_t2 := World.rowIs.drew r_t2
    replace r_t4 := World.rowIs.drew r_t4
    replace r_t5 := World.rowIs.drew r_t5
    clear Bw9
    refine wp_region_po (Keep []) (Keep.refl _) (fun _ _ _ h1 h2 => h1.trans h2) (.rd 0 .done) #[true, false, false, false, false, false, false] [1, 2, 3, 4, 5, 6] [some 16, some 17, some 18, some 19, some 6, none] [[], [0], [1], [1, 2], [], [0, 1, 2, 3, 4]] [(0, []), (1, []), (2, [0, 1, 1]), (3, [2]), (4, [2, 3, 3]), (5, []), (6, [5, 4, 4, 0, 1, 2, 3, 4, 5])] 1 (by as_aux_lemma => kernel_rfl) (by as_aux_lemma => kernel_rfl) (by decide) (by as_aux_lemma => kernel_rfl) (by as_aux_lemma => kernel_rfl) (by as_aux_lemma => kernel_rfl) rfl (fun d _ _ _ _ h => by cases d <;> exact h) ?_
    refine lintz_pure 15 (Op.load 27 (Operand.tmp 4)) 27 (.agg (arrOf 4 (ewF (mulP Y Y)))) rfl rfl rfl rfl rfl (fun w0 hb => by exact exec_load_as _ _ _ _ (ewF (mulP Y Y)) rfl arrE (Keep.row hb r_t4 rfl) (by omega) (fun i hi => by rw [Nat.zero_add])) ?_
    simp only [Act.put, List.setIfInBounds_toArray, List.set_cons_zero, List.set_cons_succ]
    refine lintz_leaf ?_
    have HWF : poWf [.val (.agg (arrOf 4 (ewF 1))), .val (.agg (arrOf 4 (ewF (subP p25 (mulP Y Y) 1)))), .val (.agg (arrOf 4 (ewF 121666))), .val (.agg (arrOf 4 (ewF (mulP (subP p25 (mulP Y Y) 1) 121666)))), .row 27 4 (u64f fun _ => 0) 5 (ewF (mulP (subP p25 (mulP Y Y) 1) 121666)), .nil] [] = true := by as_aux_lemma => kernel_rfl
    refine ⟨JG [.val (.agg (arrOf 4 (ewF 1))), .val (.agg (arrOf 4 (ewF (subP p25 (mulP Y Y) 1)))), .val (.agg (arrOf 4 (ewF 121666))), .val (.agg (arrOf 4 (ewF (mulP (subP p25 (mulP Y Y) 1) 121666)))), .row 27 4 (u64f fun _ => 0) 5 (ewF (mulP (subP p25 (mulP Y Y) 1) 121666)), .nil] [] _, JG.start (Nat.le_refl _) (fun i hi => absurd hi (Nat.not_lt_zero _)), fun m gz wa p az hp hm hmp hcl hdn hE hJ hS hO => ?_, fun gz wa hE hJ => ?_⟩
    · rcases (show p = 0 ∨ p = 1 ∨ p = 2 ∨ p = 3 ∨ p = 4 ∨ p = 5 by have h9 : p < 6 := hp; omega) with rfl | rfl | rfl | rfl | rfl | rfl
      · exact po_call 16 41 #[Operand.const (Value.int IntKind.u64 1)] #[24] _ HWF hJ rfl hE (small_any 1 _ (by decide)) rfl rfl rfl rfl rfl Try.func41 (by kernel_rfl) (by kernel_rfl) (by simp only [List.map_toArray, List.map_cons, List.map_nil, eval_const, eval_func] <;> rfl)
      · have e15 : az.eval (.tmp 15) = .agg (arrOf 4 (ewF (mulP Y Y))) := hO 15 rfl
        have e16 := (hS 0 16 rfl (hdn 0 (by decide)) (Nat.le_of_ble_eq_true rfl)).trans (hJ.says (hdn 0 (by decide)) rfl)
        exact po_call 17 69 #[Operand.tmp 15, Operand.tmp 16] #[27, 27] _ HWF hJ rfl hE (sub_any (mulP Y Y) 1 _ (mulP_lt _ _) one_ltp) rfl rfl rfl rfl rfl Try.func69 (by kernel_rfl) (by kernel_rfl) (by simp only [List.map_toArray, List.map_cons, List.map_nil, eval_const, eval_func, e15, e16] <;> rfl)
      · exact po_call 18 41 #[Operand.const (Value.int IntKind.u64 121666)] #[24] _ HWF hJ rfl hE (small_any 121666 _ (by decide)) rfl rfl rfl rfl rfl Try.func41 (by kernel_rfl) (by kernel_rfl) (by simp only [List.map_toArray, List.map_cons, List.map_nil, eval_const, eval_func] <;> rfl)
      · have e17 := (hS 1 17 rfl (hdn 1 (by decide)) (Nat.le_of_ble_eq_true rfl)).trans (hJ.says (hdn 1 (by decide)) rfl)
        have e18 := (hS 2 18 rfl (hdn 2 (by decide)) (Nat.le_of_ble_eq_true rfl)).trans (hJ.says (hdn 2 (by decide)) rfl)
        exact po_call 19 55 #[Operand.tmp 17, Operand.tmp 18] #[27, 27] _ HWF hJ rfl hE (mul_any (subP p25 (mulP Y Y) 1) 121666 _ (subP_lt _ _) (by decide +kernel)) rfl rfl rfl rfl rfl Try.func55 (by kernel_rfl) (by kernel_rfl) (by simp only [List.map_toArray, List.map_cons, List.map_nil, eval_const, eval_func, e17, e18] <;> rfl)
      · exact po_alloc 6 _ 27 4 (u64f fun _ => 0) _ _ HWF hJ rfl (po_notyet hcl hmp (by rw [hm]; exact hp) (by decide)) hE rfl rfl rfl rfl rfl rfl zeroE
      · have e19 := (hS 3 19 rfl (hdn 3 (by decide)) (Nat.le_of_ble_eq_true rfl)).trans (hJ.says (hdn 3 (by decide)) rfl)
        exact po_storeRow 4 (.tmp 6) (.tmp 19) 27 4 _ _ (by rw [hm]; exact hp) hmp hJ rfl rfl (hdn 4 (by decide)) (by kernel_rfl) (fun i hi => absurd hi (Nat.not_lt_zero _)) hE rfl rfl rfl rfl rfl (hS 4 6 rfl (hdn 4 (by decide)) (Nat.le_of_ble_eq_true rfl)) e19 arrE (fun _ _ => rfl)
    · have q0 := hJ.told 0 (by decide) rfl
      have q1 := hJ.told 1 (by decide) rfl
      have q2 := hJ.told 2 (by decide) rfl
      have q3 := hJ.told 3 (by decide) rfl
      obtain ⟨b_t6, p_t6, lk_t6, r_t6, d_t6⟩ := hJ.row 4 (by decide) rfl (by decide)
      rw [putO_true _ _ _ _ _ rfl]
      simp only [putA, Nat.zero_add, Nat.reduceAdd]
      rw [q0, q1, q2, q3, p_t6]
      simp only [Act.put, List.setIfInBounds_toArray, List.set_cons_zero, List.set_cons_succ]
      refine po_end ?_
      have n_t1_t6 : b_t1 ≠ b_t6 := Nat.ne_of_lt (Nat.lt_of_lt_of_le (World.rowIs.lt r_t1) lk_t6)
      have n_t2_t6 : b_t2 ≠ b_t6 := Nat.ne_of_lt (Nat.lt_of_lt_of_le (World.rowIs.lt r_t2) lk_t6)
      have n_t4_t6 : b_t4 ≠ b_t6 := Nat.ne_of_lt (Nat.lt_of_lt_of_le (World.rowIs.lt r_t4) lk_t6)
      have n_t5_t6 : b_t5 ≠ b_t6 := Nat.ne_of_lt (Nat.lt_of_lt_of_le (World.rowIs.lt r_t5) lk_t6)
      have l_t6 := Nat.le_trans (HGS.out _ Bw10) lk_t6
      replace r_t1 := Keep.row hE r_t1 rfl
      replace r_t2 := Keep.row hE r_t2 rfl
      replace r_t4 := Keep.row hE r_t4 rfl
      replace r_t5 := Keep.row hE r_t5 rfl
      have Bw11 := hE.below Bw10 (HGS.out _ Bw10) rfl
      clear Bw10 hE hJ HWF q0 q1 q2 q3 p_t6 lk_t6 d_t6
      go_wp2
      have Bw12 := Bw11.drew
      replace r_t1 := World.rowIs.drew r_t1
      replace r_t2 := World.rowIs.drew r_t2
      replace r_t4 := World.rowIs.drew r_t4
      replace r_t5 := World.rowIs.drew r_t5
      replace r_t6 := World.rowIs.drew r_t6
      clear Bw11
      refine wp_region_po (Keep [b_t2]) (Keep.refl _) (fun _ _ _ h1 h2 => h1.trans h2) (.rd 0 (.rd 1 .done)) #[true, true, false, false, false, false, false, false, false] [2, 3, 4, 5, 6, 7, 8] [some 22, some 23, some 24, some 25, some 26, none, some 3] [[], [0], [1], [2], [2], [0, 1, 2, 3, 4], [0, 1, 2, 3, 4, 5]] [(0, []), (1, []), (2, [1]), (3, [0, 2, 2]), (4, [3, 3]), (5, [4]), (6, [4]), (7, [5, 4, 0, 1, 2, 3, 4, 5, 6]), (8, [6, 7, 0, 1, 2, 3, 4, 5, 6, 7])] 3 (by as_aux_lemma => kernel_rfl) (by as_aux_lemma => kernel_rfl) (by decide) (by as_aux_lemma => kernel_rfl) (by as_aux_lemma => kernel_rfl) (by as_aux_lemma => kernel_rfl) rfl (fun d _ _ _ _ h => by cases d <;> exact h) ?_
      refine lintz_pure 20 (Op.load 27 (Operand.tmp 6)) 27 (.agg (arrOf 4 (ewF (mulP (subP p25 (mulP Y Y) 1) 121666)))) rfl rfl rfl rfl rfl (fun w0 hb => by exact exec_load_as _ _ _ _ (ewF (mulP (subP p25 (mulP Y Y) 1) 121666)) rfl arrE (Keep.row hb r_t6 (cont1 (Ne.symm n_t2_t6))) (by omega) (fun i hi => by rw [Nat.zero_add])) ?_
      simp only [Act.put, List.setIfInBounds_toArray, List.set_cons_zero, List.set_cons_succ]
      refine lintz_pure 21 (Op.load 27 (Operand.tmp 5)) 27 (.agg (arrOf 4 (ewF (subP p25 121666 (mulP (mulP Y Y) 121665))))) rfl rfl rfl rfl rfl (fun w0 hb => by exact exec_load_as _ _ _ _ (ewF (subP p25 121666 (mulP (mulP Y Y) 121665))) rfl arrE (Keep.row hb r_t5 (cont1 (Ne.symm n_t2_t5))) (by omega) (fun i hi => by rw [Nat.zero_add])) ?_
      simp only [Act.put, List.setIfInBounds_toArray, List.set_cons_zero, List.set_cons_succ]
      refine lintz_leaf ?_
      have HWF : poWf [.val (.agg (arrOf 4 (ewF (invP (subP p25 121666 (mulP (mulP Y Y) 121665)))))), .val (.agg (arrOf 4 (ewF (mulP (mulP (subP p25 (mulP Y Y) 1) 121666) (invP (subP p25 121666 (mulP (mulP Y Y) 121665))))))), .val (.tuple #[.agg (arrOf 4 (ewF R)), .int .i64 ev]), .val (.agg (arrOf 4 (ewF R))), .val (.int .i64 ev), .nil, .val (.int .i64 ev)] [⟨b_t2, 27, 4, (u64f fun _ => 0), 5, (ewF R)⟩] = true := by as_aux_lemma => kernel_rfl
      refine ⟨JG [.val (.agg (arrOf 4 (ewF (invP (subP p25 121666 (mulP (mulP Y Y) 121665)))))), .val (.agg (arrOf 4 (ewF (mulP (mulP (subP p25 (mulP Y Y) 1) 121666) (invP (subP p25 121666 (mulP (mulP Y Y) 121665))))))), .val (.tuple #[.agg (arrOf 4 (ewF R)), .int .i64 ev]), .val (.agg (arrOf 4 (ewF R))), .val (.int .i64 ev), .nil, .val (.int .i64 ev)] [⟨b_t2, 27, 4, (u64f fun _ => 0), 5, (ewF R)⟩] _, JG.start (Nat.le_refl _) (fun i hi => by obtain rfl : i = 0 := by { have h9 : i < 1 := hi; omega }; exact r_t2), fun m gz wa p az hp hm hmp hcl hdn hE hJ hS hO => ?_, fun gz wa hE hJ => ?_⟩
      · rcases (show p = 0 ∨ p = 1 ∨ p = 2 ∨ p = 3 ∨ p = 4 ∨ p = 5 ∨ p = 6 by have h9 : p < 7 := hp; omega) with rfl | rfl | rfl | rfl | rfl | rfl | rfl
        · have e21 : az.eval (.tmp 21) = .agg (arrOf 4 (ewF (subP p25 121666 (mulP (mulP Y Y) 121665)))) := hO 21 rfl
          exact po_call 22 54 #[Operand.tmp 21] #[27] _ HWF hJ rfl hE (inv_any (subP p25 121666 (mulP (mulP Y Y) 121665)) _ (subP_lt _ _)) rfl rfl rfl rfl rfl Try.func54 (by kernel_rfl) (by kernel_rfl) (by simp only [List.map_toArray, List.map_cons, List.map_nil, eval_const, eval_func, e21] <;> rfl)
        · have e20 : az.eval (.tmp 20) = .agg (arrOf 4 (ewF (mulP (subP p25 (mulP Y Y) 1) 121666))) := hO 20 rfl
          have e22 := (hS 0 22 rfl (hdn 0 (by decide)) (Nat.le_of_ble_eq_true rfl)).trans (hJ.says (hdn 0 (by decide)) rfl)
          exact po_call 23 55 #[Operand.tmp 20, Operand.tmp 22] #[27, 27] _ HWF hJ rfl hE (mul_any (mulP (subP p25 (mulP Y Y) 1) 121666) (invP (subP p25 121666 (mulP (mulP Y Y) 121665))) _ (mulP_lt _ _) (invP_lt _)) rfl rfl rfl rfl rfl Try.func55 (by kernel_rfl) (by kernel_rfl) (by simp only [List.map_toArray, List.map_cons, List.map_nil, eval_const, eval_func, e20, e22] <;> rfl)
        · have e23 := (hS 1 23 rfl (hdn 1 (by decide)) (Nat.le_of_ble_eq_true rfl)).trans (hJ.says (hdn 1 (by decide)) rfl)
          exact po_call 24 78 #[Operand.tmp 23] #[27] _ HWF hJ rfl hE (HRT.out _) rfl rfl rfl rfl rfl Try.func78 (by kernel_rfl) (by kernel_rfl) (by simp only [List.map_toArray, List.map_cons, List.map_nil, eval_const, eval_func, e23] <;> rfl)
        · have e24 := (hS 2 24 rfl (hdn 2 (by decide)) (Nat.le_of_ble_eq_true rfl)).trans (hJ.says (hdn 2 (by decide)) rfl)
          exact po_run 25 (Op.extract (Operand.tmp 24) 0) _ HWF hJ rfl hE rfl rfl rfl rfl rfl rfl (by first | (simp only [execOp, mkOp, eval_const, e24]; done) | (simp only [execOp, mkOp, eval_const, e24]; go_simp))
        · have e24 := (hS 2 24 rfl (hdn 2 (by decide)) (Nat.le_of_ble_eq_true rfl)).trans (hJ.says (hdn 2 (by decide)) rfl)
          exact po_run 26 (Op.extract (Operand.tmp 24) 1) _ HWF hJ rfl hE rfl rfl rfl rfl rfl rfl (by first | (simp only [execOp, mkOp, eval_const, e24]; done) | (simp only [execOp, mkOp, eval_const, e24]; go_simp))
        · have e25 := (hS 3 25 rfl (hdn 3 (by decide)) (Nat.le_of_ble_eq_true rfl)).trans (hJ.says (hdn 3 (by decide)) rfl)
          exact po_storeOld 0 (.tmp 2) (.tmp 25) 27 b_t2 4 _ (by rw [hm]; exact hp) hmp hJ rfl (show 0 < 1 by decide) rfl rfl rfl rfl rfl (World.rowIs.lt r_t2) (by simp) (by kernel_rfl) po_ne1 hE rfl rfl rfl rfl rfl (hO 2 rfl) e25 arrE (fun _ _ => rfl)
        · have e26 := (hS 4 26 rfl (hdn 4 (by decide)) (Nat.le_of_ble_eq_true rfl)).trans (hJ.says (hdn 4 (by decide)) rfl)
          exact po_run 3 (Op.assign (Operand.tmp 26)) _ HWF hJ rfl hE rfl rfl rfl rfl rfl rfl (by first | (simp only [execOp, mkOp, eval_const, e26]; done) | (simp only [execOp, mkOp, eval_const, e26]; go_simp))
      · have q0 := hJ.told 0 (by decide) rfl
        have q1 := hJ.told 1 (by decide) rfl
        have q2 := hJ.told 2 (by decide) rfl
        have q3 := hJ.told 3 (by decide) rfl
        have q4 := hJ.told 4 (by decide) rfl
        have q6 := hJ.told 6 (by decide) rfl
        rw [putO_true _ _ _ _ _ rfl]
        simp only [putA, Nat.zero_add, Nat.reduceAdd]
        rw [q0, q1, q2, q3, q4, q6]
        simp only [Act.put, List.setIfInBounds_toArray, List.set_cons_zero, List.set_cons_succ]
        refine po_end ?_
        replace r_t1 := Keep.row hE r_t1 (cont1 n_t1_t2)
        replace r_t2 : wa.rowIs b_t2 27 4 (ewF R) := hJ.old 0 (show 0 < 1 by decide) (show 5 < 7 by decide)
        replace r_t4 := Keep.row hE r_t4 (cont1 (Ne.symm n_t2_t4))
        replace r_t5 := Keep.row hE r_t5 (cont1 (Ne.symm n_t2_t5))
        replace r_t6 := Keep.row hE r_t6 (cont1 (Ne.symm n_t2_t6))
        have Bw13 := hE.below Bw12 (HGS.out _ Bw12) (keep_all1 l_t2)
        clear Bw12 hE hJ HWF q0 q1 q2 q3 q4 q6
        go_wp2
        exact ret_cell_as_tmp _ rfl arrE r_t2 rfl rfl (by omega) (fun _ _ => rfl) rfl ⟨rfl, Bw13⟩
end Go.Proofs.Ytphkmaihnbhgoaa

/- The program's base point. -/
namespace Go.Proofs.Ytphkmaihnbhgoaa
open Go.RowKit Go.Deep
set_option linter.unusedSimpArgs false
set_option linter.unusedVariables false

theorem Bs.litc (w : World) (l : List UInt8) (fr : Nat × Nat) (n : Nat) (hn : n = l.length) (hm : n ≤ maxLen) : Bs (w.alloc (.cells (u8s l).toArray 5 fr)) (.slice (some ⟨w.heap.size, 0, none⟩) n n) l := by
  subst hn
  refine ⟨_, l.length, rfl, Nat.le_refl _, hm, (fun h => by cases h), fun x hx i hi => ?_⟩
  cases hx
  refine ⟨by show w.heap.size < (w.alloc _).heap.size; simp, ?_⟩
  rw [add_eq, Nat.zero_add]
  refine (World.cell?_alloc_mark w _ _ fr i).trans ?_
  simp [u8s, hi]
def bsX : List UInt8 := [26, 213, 37, 143, 96, 45, 86, 201, 178, 167, 37, 149, 96, 199, 44, 105, 92, 220, 214, 253, 49, 226, 164, 192, 254, 83, 110, 205, 211, 54, 105, 33]
def clX : Array Value := #[.int .u8 26, .int .u8 213, .int .u8 37, .int .u8 143, .int .u8 96, .int .u8 45, .int .u8 86, .int .u8 201, .int .u8 178, .int .u8 167, .int .u8 37, .int .u8 149, .int .u8 96, .int .u8 199, .int .u8 44, .int .u8 105, .int .u8 92, .int .u8 220, .int .u8 214, .int .u8 253, .int .u8 49, .int .u8 226, .int .u8 164, .int .u8 192, .int .u8 254, .int .u8 83, .int .u8 110, .int .u8 205, .int .u8 211, .int .u8 54, .int .u8 105, .int .u8 33]
theorem ofL_bsX : ofL bsX = ptB.1 := by decide +kernel
theorem exec_bsX (a : Act) (t : TypeId) (w : World) : (execOp a.eval (mkOp (.buildSlice 22 32 #[(0, .const (.int .u8 26)), (1, .const (.int .u8 213)), (2, .const (.int .u8 37)), (3, .const (.int .u8 143)), (4, .const (.int .u8 96)), (5, .const (.int .u8 45)), (6, .const (.int .u8 86)), (7, .const (.int .u8 201)), (8, .const (.int .u8 178)), (9, .const (.int .u8 167)), (10, .const (.int .u8 37)), (11, .const (.int .u8 149)), (12, .const (.int .u8 96)), (13, .const (.int .u8 199)), (14, .const (.int .u8 44)), (15, .const (.int .u8 105)), (16, .const (.int .u8 92)), (17, .const (.int .u8 220)), (18, .const (.int .u8 214)), (19, .const (.int .u8 253)), (20, .const (.int .u8 49)), (21, .const (.int .u8 226)), (22, .const (.int .u8 164)), (23, .const (.int .u8 192)), (24, .const (.int .u8 254)), (25, .const (.int .u8 83)), (26, .const (.int .u8 110)), (27, .const (.int .u8 205)), (28, .const (.int .u8 211)), (29, .const (.int .u8 54)), (30, .const (.int .u8 105)), (31, .const (.int .u8 33))]) t)).run Try.prog w = .ok (.value (.slice (some ⟨w.heap.size, 0, none⟩) 32 32)) (w.alloc (.cells clX 5)) := by
  unfold clX
  simp only [execOp, mkOp, List.map_toArray, List.map_cons, List.map_nil, eval_const]
  go_simp
theorem bs_clX (w : World) : Bs (w.alloc (.cells clX 5 (32, 33))) (.slice (some ⟨w.heap.size, 0, none⟩) 32 32) bsX := Bs.litc w bsX (32, 33) 32 rfl (by unfold maxLen; omega)
theorem exec_cvX (a : Act) (x : Operand) (t : TypeId) (w : World) (hx : a.eval x = .slice (some ⟨w.heap.size, 0, none⟩) 32 32) : (execOp a.eval (mkOp (.convert 22 22 x) t)).run Try.prog (w.alloc (.cells clX 5)) = .ok (.value (.slice (some ⟨w.heap.size, 0, none⟩) 32 32)) (w.alloc (.cells clX 5 (32, 33))) := by
  have hr := Lib.run_convert_bytes_const (P := Try.prog) w 22 5 clX 32 32 Try.underlying22 Try.underlying5
  rw [show clX.size = 32 from rfl] at hr
  simp [execOp, mkOp, hx, hr, Result.andThen]
theorem wpList_bsX {ops : Array Oper} {rest : List Oper} {o o' : Oper} {a : Act} {w : World} {Q : Exit → Act → World → Prop} (hgd : o.guard = none) (hgd' : o'.guard = none) (x : Operand) (ho : o.op = .buildSlice 22 32 #[(0, .const (.int .u8 26)), (1, .const (.int .u8 213)), (2, .const (.int .u8 37)), (3, .const (.int .u8 143)), (4, .const (.int .u8 96)), (5, .const (.int .u8 45)), (6, .const (.int .u8 86)), (7, .const (.int .u8 201)), (8, .const (.int .u8 178)), (9, .const (.int .u8 167)), (10, .const (.int .u8 37)), (11, .const (.int .u8 149)), (12, .const (.int .u8 96)), (13, .const (.int .u8 199)), (14, .const (.int .u8 44)), (15, .const (.int .u8 105)), (16, .const (.int .u8 92)), (17, .const (.int .u8 220)), (18, .const (.int .u8 214)), (19, .const (.int .u8 253)), (20, .const (.int .u8 49)), (21, .const (.int .u8 226)), (22, .const (.int .u8 164)), (23, .const (.int .u8 192)), (24, .const (.int .u8 254)), (25, .const (.int .u8 83)), (26, .const (.int .u8 110)), (27, .const (.int .u8 205)), (28, .const (.int .u8 211)), (29, .const (.int .u8 54)), (30, .const (.int .u8 105)), (31, .const (.int .u8 33))]) (ho' : o'.op = .convert 22 22 x) (hx : ∀ v, (a.put o.dst v).eval x = v)
    (h : ∀ v v' w', Bs w' v' bsX → Below w.heap.size w w' → wpList Try.prog ops Q rest ((a.put o.dst v).put o'.dst v') w') : wpList Try.prog ops Q (o :: o' :: rest) a w := by
  exact wpList_plain hgd fun _ hK => by
    unfold Oper.wp
    rw [exec_mkOp, ho, exec_bsX]
    refine hK _ _ (wpList_plain hgd' fun _ hK' => ?_)
    unfold Oper.wp
    rw [exec_mkOp, ho', exec_cvX _ _ _ _ (hx _)]
    exact hK' _ _ (h _ _ _ (bs_clX w) ((Below.refl _ _).alloc (Nat.le_refl _) _))
def bsY : List UInt8 := [88, 102, 102, 102, 102, 102, 102, 102, 102, 102, 102, 102, 102, 102, 102, 102, 102, 102, 102, 102, 102, 102, 102, 102, 102, 102, 102, 102, 102, 102, 102, 102]
def clY : Array Value := #[.int .u8 88, .int .u8 102, .int .u8 102, .int .u8 102, .int .u8 102, .int .u8 102, .int .u8 102, .int .u8 102, .int .u8 102, .int .u8 102, .int .u8 102, .int .u8 102, .int .u8 102, .int .u8 102, .int .u8 102, .int .u8 102, .int .u8 102, .int .u8 102, .int .u8 102, .int .u8 102, .int .u8 102, .int .u8 102, .int .u8 102, .int .u8 102, .int .u8 102, .int .u8 102, .int .u8 102, .int .u8 102, .int .u8 102, .int .u8 102, .int .u8 102, .int .u8 102]
theorem ofL_bsY : ofL bsY = ptB.2 := by decide +kernel
theorem exec_bsY (a : Act) (t : TypeId) (w : World) : (execOp a.eval (mkOp (.buildSlice 22 32 #[(0, .const (.int .u8 88)), (1, .const (.int .u8 102)), (2, .const (.int .u8 102)), (3, .const (.int .u8 102)), (4, .const (.int .u8 102)), (5, .const (.int .u8 102)), (6, .const (.int .u8 102)), (7, .const (.int .u8 102)), (8, .const (.int .u8 102)), (9, .const (.int .u8 102)), (10, .const (.int .u8 102)), (11, .const (.int .u8 102)), (12, .const (.int .u8 102)), (13, .const (.int .u8 102)), (14, .const (.int .u8 102)), (15, .const (.int .u8 102)), (16, .const (.int .u8 102)), (17, .const (.int .u8 102)), (18, .const (.int .u8 102)), (19, .const (.int .u8 102)), (20, .const (.int .u8 102)), (21, .const (.int .u8 102)), (22, .const (.int .u8 102)), (23, .const (.int .u8 102)), (24, .const (.int .u8 102)), (25, .const (.int .u8 102)), (26, .const (.int .u8 102)), (27, .const (.int .u8 102)), (28, .const (.int .u8 102)), (29, .const (.int .u8 102)), (30, .const (.int .u8 102)), (31, .const (.int .u8 102))]) t)).run Try.prog w = .ok (.value (.slice (some ⟨w.heap.size, 0, none⟩) 32 32)) (w.alloc (.cells clY 5)) := by
  unfold clY
  simp only [execOp, mkOp, List.map_toArray, List.map_cons, List.map_nil, eval_const]
  go_simp
theorem bs_clY (w : World) : Bs (w.alloc (.cells clY 5 (32, 33))) (.slice (some ⟨w.heap.size, 0, none⟩) 32 32) bsY := Bs.litc w bsY (32, 33) 32 rfl (by unfold maxLen; omega)
theorem exec_cvY (a : Act) (x : Operand) (t : TypeId) (w : World) (hx : a.eval x = .slice (some ⟨w.heap.size, 0, none⟩) 32 32) : (execOp a.eval (mkOp (.convert 22 22 x) t)).run Try.prog (w.alloc (.cells clY 5)) = .ok (.value (.slice (some ⟨w.heap.size, 0, none⟩) 32 32)) (w.alloc (.cells clY 5 (32, 33))) := by
  have hr := Lib.run_convert_bytes_const (P := Try.prog) w 22 5 clY 32 32 Try.underlying22 Try.underlying5
  rw [show clY.size = 32 from rfl] at hr
  simp [execOp, mkOp, hx, hr, Result.andThen]
theorem wpList_bsY {ops : Array Oper} {rest : List Oper} {o o' : Oper} {a : Act} {w : World} {Q : Exit → Act → World → Prop} (hgd : o.guard = none) (hgd' : o'.guard = none) (x : Operand) (ho : o.op = .buildSlice 22 32 #[(0, .const (.int .u8 88)), (1, .const (.int .u8 102)), (2, .const (.int .u8 102)), (3, .const (.int .u8 102)), (4, .const (.int .u8 102)), (5, .const (.int .u8 102)), (6, .const (.int .u8 102)), (7, .const (.int .u8 102)), (8, .const (.int .u8 102)), (9, .const (.int .u8 102)), (10, .const (.int .u8 102)), (11, .const (.int .u8 102)), (12, .const (.int .u8 102)), (13, .const (.int .u8 102)), (14, .const (.int .u8 102)), (15, .const (.int .u8 102)), (16, .const (.int .u8 102)), (17, .const (.int .u8 102)), (18, .const (.int .u8 102)), (19, .const (.int .u8 102)), (20, .const (.int .u8 102)), (21, .const (.int .u8 102)), (22, .const (.int .u8 102)), (23, .const (.int .u8 102)), (24, .const (.int .u8 102)), (25, .const (.int .u8 102)), (26, .const (.int .u8 102)), (27, .const (.int .u8 102)), (28, .const (.int .u8 102)), (29, .const (.int .u8 102)), (30, .const (.int .u8 102)), (31, .const (.int .u8 102))]) (ho' : o'.op = .convert 22 22 x) (hx : ∀ v, (a.put o.dst v).eval x = v)
    (h : ∀ v v' w', Bs w' v' bsY → Below w.heap.size w w' → wpList Try.prog ops Q rest ((a.put o.dst v).put o'.dst v') w') : wpList Try.prog ops Q (o :: o' :: rest) a w := by
  exact wpList_plain hgd fun _ hK => by
    unfold Oper.wp
    rw [exec_mkOp, ho, exec_bsY]
    refine hK _ _ (wpList_plain hgd' fun _ hK' => ?_)
    unfold Oper.wp
    rw [exec_mkOp, ho', exec_cvY _ _ _ _ (hx _)]
    exact hK' _ _ (h _ _ _ (bs_clY w) ((Below.refl _ _).alloc (Nat.le_refl _) _))
theorem of5_to (v : Value) (l : List UInt8) (A : Nat) (w : World) (h : Bs w v l) (hA : ofL l = A) : Calls Try.prog 59 #[v] w fun e w' => e = .returned (.agg (arrOf 4 (ewF A))) ∧ Below w.heap.size w w' := by
  have g := of_any v l w h
  rwa [hA] at g
set_option maxHeartbeats 4000000 in
set_option maxRecDepth 10000 in
theorem qTBase_any (w : World) : Calls Try.prog 16 #[] w fun e w' => e = .returned (.agg (arrOf 12 (qT bT))) ∧ Below w.heap.size w w' := by
  have Bw0 := Below.refl w.heap.size w
  have HGS : Hid (∀ wq : World, Below w.heap.size w wq → w.heap.size ≤ wq.heap.size) := Lib.hid fun wq h => h.size
  have HOX := Lib.hid ofL_bsX
  have HOY := Lib.hid ofL_bsY
  have HT : Hid (bT = (ptB.1, ptB.2, 1)) := Lib.hid rfl
  obtain ⟨bx, hbx⟩ := nat_var ptB.1
  obtain ⟨bz, hbz⟩ := nat_var ptB.2
  rw [← hbx] at HOX HT
  rw [← hbz] at HOY HT
  clear hbx hbz
  go_enter Try.func16, Try.ntmps16
  go_wp2_with (first
    | (have hgo := Bw0; clear hgo
       refine wpList_alloc_row rfl 29 rfl 12 (u64f fun _ => 0) zeroQ ?_
       intro b_t0 w1 lk r_t0 kk
       have l_t0 := Nat.le_trans (HGS.out _ Bw0) lk
       have Bw1 := Bw0.trans (kk.mono (HGS.out _ Bw0))
       clear Bw0 kk lk)
    | (have hgo := Bw1; clear hgo
       refine wpList_bsX rfl rfl (.tmp 1) rfl rfl (fun _ => rfl) ?_
       intro u_b1 v_b1 w2 f_b1 kk
       replace r_t0 := World.rowIs.of_block r_t0 (kk.block _ (World.rowIs.lt r_t0))
       have Bw2 := Bw1.trans (kk.mono (HGS.out _ Bw1))
       clear Bw1 kk)
    | (have hgo := Bw2; clear hgo
       go_at_call 59
       refine (of5_to _ bsX bx _ f_b1 HOX.out).mono ?_
       rintro e w3 ⟨rfl, kk⟩
       replace r_t0 := World.rowIs.of_block r_t0 (kk.block _ (World.rowIs.lt r_t0))
       replace f_b1 := Bs.below f_b1 kk (Nat.le_refl _)
       have Bw3 := Bw2.trans (kk.mono (HGS.out _ Bw2))
       clear Bw2 kk)
    | (have hgo := Bw3; clear hgo
       refine wpList_bsY rfl rfl (.tmp 4) rfl rfl (fun _ => rfl) ?_
       intro u_b4 v_b4 w4 f_b4 kk
       replace r_t0 := World.rowIs.of_block r_t0 (kk.block _ (World.rowIs.lt r_t0))
       replace f_b1 := Bs.below f_b1 kk (Nat.le_refl _)
       have Bw4 := Bw3.trans (kk.mono (HGS.out _ Bw3))
       clear Bw3 kk)
    | (have hgo := Bw4; clear hgo
       go_at_call 59
       refine (of5_to _ bsY bz _ f_b4 HOY.out).mono ?_
       rintro e w5 ⟨rfl, kk⟩
       replace r_t0 := World.rowIs.of_block r_t0 (kk.block _ (World.rowIs.lt r_t0))
       replace f_b1 := Bs.below f_b1 kk (Nat.le_refl _)
       replace f_b4 := Bs.below f_b4 kk (Nat.le_refl _)
       have Bw5 := Bw4.trans (kk.mono (HGS.out _ Bw4))
       clear Bw4 kk)
    | (have hgo := Bw5; clear hgo
       go_at_call 41
       refine (small_any 1 _ (by decide)).mono ?_
       rintro e w6 ⟨rfl, kk⟩
       replace r_t0 := World.rowIs.of_block r_t0 (kk.block _ (World.rowIs.lt r_t0))
       replace f_b1 := Bs.below f_b1 kk (Nat.le_refl _)
       replace f_b4 := Bs.below f_b4 kk (Nat.le_refl _)
       have Bw6 := Bw5.trans (kk.mono (HGS.out _ Bw5))
       clear Bw5 kk)
    | (have hgo := Bw6; clear hgo
       refine wpList_build_arr rfl 29 #[(0, Operand.tmp 3), (1, Operand.tmp 6), (2, Operand.tmp 7)] rfl (arrOf 12 (qT (bx, bz, 1))) ?_ ?_
       · simp only [List.map_toArray, List.map_cons, List.map_nil]; exact builtQT bx bz 1
       have Bw7 := Bw6
       clear Bw6)
    | (have hgo := Bw7; clear hgo
       refine wpList_store_as rfl 29 (.tmp 0) (.tmp 8) rfl 12 (qT (bx, bz, 1)) arrQ r_t0 rfl rfl (by omega) (fun j _ => qF_one _ _ _ j) (fun i hi => putN_whole hi) ?_
       intro w8 q gk
       replace r_t0 := q
       have Bw8 := Bw7.grown gk (HGS.out _ Bw7) (by intro k hk; cases hk; exact l_t0)
       clear f_b1
       clear f_b4
       clear Bw7 gk q))
  exact ret_cell_as _ rfl arrQ r_t0 rfl (by omega) (fun _ _ => rfl) rfl ⟨by rw [HT.out], Bw8⟩
end Go.Proofs.Ytphkmaihnbhgoaa

/- Rows one behind the other: flat.Cat, missivealike.Cat. -/
set_option linter.unusedSimpArgs false
set_option linter.unusedVariables false
namespace Go.Proofs.Ytphkmaihnbhgoaa
open Go.RowKit Go.Deep

/-- The first j rows, one behind the other. -/
def catTo (L : List (List UInt8)) (j : Nat) : List UInt8 := (L.take j).flatten
theorem catTo_succ (L : List (List UInt8)) (j : Nat) (h : j < L.length) : catTo L (j + 1) = catTo L j ++ L[j] := by
  unfold catTo
  rw [List.take_succ_eq_append_getElem h, List.flatten_append]
  simp
theorem catTo_all (L : List (List UInt8)) (j : Nat) (h : L.length ≤ j) : catTo L j = L.flatten := by
  unfold catTo; rw [List.take_of_length_le h]
theorem catTo_le (L : List (List UInt8)) (j : Nat) : (catTo L j).length ≤ L.flatten.length := by
  have : L.flatten = catTo L j ++ (L.drop j).flatten := by unfold catTo; rw [← List.flatten_append, List.take_append_drop]
  rw [this, List.length_append]; omega

set_option maxHeartbeats 800000 in
theorem cat_any (v : Value) (L : List (List UInt8)) (w : World) (hv : Bss w v L) (hlen : L.flatten.length ≤ 2147483647) :
    Calls Try.prog 35 #[v] w fun e w' => ∃ v', e = .returned v' ∧ Owns w' w.heap.size v' L.flatten ∧ Below w.heap.size w w' := by
  have HV := Lib.hid hv
  obtain ⟨a, cap, rfl, h1, h2, h3, h4⟩ := hv
  clear h3 h4
  unfold maxLen at h2
  obtain ⟨i0, hi, hz0, hz1, hz2⟩ := info_parts Try.info5
  go_enter Try.func35, Try.ntmps35
  go_wp2
  go_loop [3, 11] (fun s i => ∃ j : Nat, j ≤ L.length ∧ i = .int .i64 j ∧ s = .int .i64 ((catTo L j).length : Nat)) (fun _ i => L.length - (intOf i).toNat)
  case atStart => exact ⟨0, Nat.zero_le _, rfl, rfl⟩
  case round =>
    obtain ⟨j, hj, rfl, rfl⟩ := hrel
    by_cases hlt : j < L.length
    · have hle := catTo_le L (j + 1)
      have hsucc := congrArg List.length (catTo_succ L j hlt)
      rw [List.length_append] at hsucc
      have hle2 : (catTo L j).length + L[j].length ≤ 2147483647 := by omega
      have HS := Lib.hid hsucc
      clear hsucc hle
      obtain ⟨b, off, cap', he, _, _, _, hc⟩ := HV.out.open_cons (by omega)
      cases he
      obtain ⟨u, hcj, hu⟩ := hc j hlt
      clear hc
      obtain ⟨au, cu, rfl, _, _, _, _⟩ := hu
      go_wp2
      go_round
      case rel => exact ⟨j + 1, by omega, by go_num, by rw [HS.out]; go_num⟩
      case measure => simp [intOf]; omega
    · obtain rfl : j = L.length := by omega
      have hall := catTo_all L L.length (Nat.le_refl _)
      rw [hall]
      clear hall
      generalize hn : L.flatten.length = n at *
      have HN := Lib.hid hn
      clear hn
      go_wp2_with (refine wpList_make_own _ rfl _ _ 22 rfl w.heap.size 5 i0 (.int .u8 0) 1 Try.underlying22 hi hz0 hz1 .i64 .i64 _ n rfl rfl rfl (by rw [hz2]; omega) (by unfold maxLen; omega) (Nat.le_refl _) ?_; intro w1 hown1 hgrow1)
      have hO : Owns w1 w.heap.size (.slice (some ⟨w.heap.size, 0, none⟩) 0 n) [] := hown1
      have hB1 : Below w.heap.size w w1 := (Below.refl _ _).grown hgrow1 (Nat.le_refl _) (fun k hk => by cases hk)
      clear hown1 hgrow1
      go_loopw [6, 24] (fun v i wr => ∃ j : Nat, j ≤ L.length ∧ i = .int .i64 j ∧ Owns wr w.heap.size v (catTo L j) ∧ Below w.heap.size w wr) (fun _ i _ => L.length - (intOf i).toNat)
      case atStart => exact ⟨0, Nat.zero_le _, rfl, hO, hB1⟩
      case round =>
        obtain ⟨j, hj, rfl, hown, hbel⟩ := hrel
        clear hO hB1
        by_cases hlt : j < L.length
        · have hsum : (catTo L j).length + L[j].length ≤ n := by
            have := catTo_le L (j + 1)
            rw [catTo_succ L j hlt, List.length_append] at this
            have := HN.out
            omega
          obtain ⟨b, off, cap', he, _, _, hbl, hc⟩ := HV.out.open_cons (by omega)
          cases he
          obtain ⟨u, hcj, hu⟩ := hc j hlt
          clear hc
          have hcr : wr.cell? ⟨b, off + j, none⟩ = some u := (hbel.cell (by exact hbl)).trans hcj
          have hur : Bs wr u L[j] := hu.below hbel (Nat.le_refl _)
          have HU := Lib.hid hur
          obtain ⟨au, cu, rfl, _, _, _, _⟩ := hu
          clear hur
          go_wp2_with (refine wpList_app rfl _ _ rfl w.heap.size _ _ (catTo L j) L[j] hown HU.out rfl rfl (by omega) (by have := hbel.size; omega) ?_; intro v2 w2 hown2 hgrow2)
          have hown3 : Owns w2 w.heap.size v2 (catTo L (j + 1)) := by rw [catTo_succ L j hlt]; exact hown2
          have hbel3 : Below w.heap.size w w2 := hbel.grown hgrow2 hbel.size (Owns.block hown)
          clear hown2 hgrow2 hown hbel hcr HU hsum
          go_wp2
          go_roundw
          case rel => exact ⟨j + 1, by omega, by go_num, hown3, hbel3⟩
          case measure => simp [intOf]; omega
        · obtain rfl : j = L.length := by omega
          go_wp2
          go_ret
          exact ⟨_, rfl, by rw [← catTo_all L L.length (Nat.le_refl _)]; exact hown, hbel⟩
end Go.Proofs.Ytphkmaihnbhgoaa

/- The program's points: the point that bytes stand for. -/
namespace Go.Proofs.Ytphkmaihnbhgoaa
open Go.RowKit Go.Deep
set_option linter.unusedSimpArgs false
set_option linter.unusedVariables false

theorem notand128 (x : Nat) (h : x < 256) : bits .andNot .u8 (x : Int) 128 = ((x % 128 : Nat) : Int) := by
  have g : ∀ q : Fin 256, bits .andNot .u8 ((q.val : Nat) : Int) 128 = ((q.val % 128 : Nat) : Int) := by decide +kernel
  exact g ⟨x, h⟩
theorem and128 (x : Nat) (h : x < 256) : bits .and .u8 (x : Int) 128 = ((128 * (x / 128) : Nat) : Int) := by
  have g : ∀ q : Fin 256, bits .and .u8 ((q.val : Nat) : Int) 128 = ((128 * (q.val / 128) : Nat) : Int) := by decide +kernel
  exact g ⟨x, h⟩
theorem exec_zeroE {w : World} (ρ : Operand → Value) (t : TypeId) : (execOp ρ (mkOp (.build 27 #[]) t)).run Try.prog w = .ok (.value (.agg (arrOf 4 (ewF 0)))) w := by
  have hr := run_build w 27 #[] (arrOf 4 (ewF 0)) builtE0
  simp [execOp, mkOp, hr, Result.andThen]
theorem exec_rowsP1 (ρ : Operand → Value) (x : Operand) (t : TypeId) (w : World) {v1 : Value} {l1 : List UInt8} (h1 : Bs w v1 l1) (hx : ρ x = v1) :
    (execOp ρ (mkOp (.buildSlice 102 1 #[(0, x)]) t)).run Try.prog w = .ok (.value (.slice (some ⟨w.heap.size, 0, none⟩) 1 1)) (w.alloc (.cells #[v1] 22)) := by
  obtain ⟨a1, c1, rfl, _⟩ := h1
  simp only [execOp, mkOp, List.map_toArray, List.map_cons, List.map_nil, hx]
  go_simp
theorem wpList_rows1 {ops : Array Oper} {rest : List Oper} {o : Oper} {a : Act} {w : World} {Q : Exit → Act → World → Prop} (hgd : o.guard = none) (x : Operand) (ho : o.op = .buildSlice 102 1 #[(0, x)]) {v1 : Value} {l1 : List UInt8} (h1 : Bs w v1 l1) (hx : a.eval x = v1)
    (h : ∀ v w', Bss w' v [l1] → Below w.heap.size w w' → wpList Try.prog ops Q rest (a.put o.dst v) w') : wpList Try.prog ops Q (o :: rest) a w := by
  have hr := exec_rowsP1 a.eval x o.type w h1 hx
  exact wpList_plain hgd fun _ hK => by
    unfold Oper.wp
    rw [exec_mkOp, ho, hr]
    exact hK _ _ (h _ _ (Bss.one h1 rfl) ((Below.refl _ _).alloc (Nat.le_refl _) _))
theorem strict_yes (v : Value) (l C : List UInt8) (Y : Nat) (w : World) (h : Bs w v C) (hC : C = cutB l) (hl : l.length = 32) (hY : numL l 32 % top = Y) (hYl : Y < p25) :
    Calls Try.prog 36 #[v] w fun e w' => e = .returned (.tuple #[.agg (arrOf 4 (ewF Y)), .int .i64 0]) ∧ Below w.heap.size w w' := by
  have g := strict_any v C w h
  have e : strictL C = some Y := by rw [hC, strict_cut l hl, hY, if_pos hYl]
  rw [e] at g
  exact g
theorem strict_no (v : Value) (l C : List UInt8) (w : World) (h : Bs w v C) (hC : C = cutB l) (hl : l.length = 32) (hYl : ¬ numL l 32 % top < p25) :
    Calls Try.prog 36 #[v] w fun e w' => e = .returned (.tuple #[.agg (arrOf 4 (ewF 0)), .int .i64 2]) ∧ Below w.heap.size w w' := by
  have g := strict_any v C w h
  have e : strictL C = none := by rw [hC, strict_cut l hl, if_neg hYl]
  rw [e] at g
  exact g
theorem bes_some (Y x : Nat) (w : World) (hY : Y < p25) (hx : decX Y = some x) : Calls Try.prog 37 #[.agg (arrOf 4 (ewF Y))] w fun e w' => e = .returned (.tuple #[.agg (arrOf 4 (ewF x)), .int .i64 0]) ∧ Below w.heap.size w w' := by
  have g := beside_any Y w hY
  rw [hx] at g
  exact g
theorem bes_none (Y : Nat) (w : World) (hY : Y < p25) (hx : decX Y = none) : Calls Try.prog 37 #[.agg (arrOf 4 (ewF Y))] w fun e w' => e = .returned (.tuple #[.agg (arrOf 4 (ewF 0)), .int .i64 7]) ∧ Below w.heap.size w w' := by
  have g := beside_any Y w hY
  rw [hx] at g
  exact g
theorem pick_to (y : Bool) (A C : Nat) (w : World) : Calls Try.prog 39 #[.bool y, .agg (arrOf 4 (ewF A)), .agg (arrOf 4 (ewF C))] w fun e w' => e = .returned (.agg (arrOf 4 (ewF (if y = true then A else C)))) ∧ Below w.heap.size w w' := pick_any y A C w
set_option maxHeartbeats 4000000 in
set_option maxRecDepth 10000 in
theorem qDecode_1 (v0 : Value) (l0 : List UInt8) (w : World) (h0 : Bs w v0 l0) (hl : ¬ l0.length = 32) : Calls Try.prog 10 #[v0] w fun e w' => e = .returned (.tuple #[.agg (arrOf 12 (qF 0 0 0)), .int .i64 12]) ∧ Below w.heap.size w w' := by
  have B00 := Below.refl w.heap.size w
  obtain ⟨ad0, n0, c0, rfl, e0, y0, z0, hB0⟩ := h0.shape
  have q0 : ¬ (n0 : Int) = 32 := by omega
  clear h0 hB0 B00
  have Bw0 := Below.refl w.heap.size w
  have HGS : Hid (∀ wq : World, Below w.heap.size w wq → w.heap.size ≤ wq.heap.size) := Lib.hid fun wq h => h.size
  go_enter Try.func10, Try.ntmps10
  go_wp2_with (first
    | (have hgo := Bw0; clear hgo
       refine wpList_alloc_row rfl 29 rfl 12 (u64f fun _ => 0) zeroQ ?_
       intro b_t2 w1 lk r_t2 kk
       have l_t2 := Nat.le_trans (HGS.out _ Bw0) lk
       have Bw1 := Bw0.trans (kk.mono (HGS.out _ Bw0))
       clear Bw0 kk lk)
    | (have hgo := Bw1; clear hgo
       refine wpList_build_arr rfl 29 #[] rfl (arrOf 12 (qF 0 0 0)) ?_ ?_
       · simp only [List.map_toArray, List.map_cons, List.map_nil]; exact builtQ0
       have Bw2 := Bw1
       clear Bw1)
    | (have hgo := Bw2; clear hgo
       refine wpList_store_as rfl 29 (.tmp 2) (.tmp 12) rfl 12 (qF 0 0 0) arrQ r_t2 rfl rfl (by omega) (fun j _ => qF_one _ _ _ j) (fun i hi => putN_whole hi) ?_
       intro w4 q gk
       replace r_t2 := q
       have Bw3 := Bw2.grown gk (HGS.out _ Bw2) (by intro k hk; cases hk; exact l_t2)
       clear Bw2 gk q))
  exact ret_cell_as_tmp _ rfl arrQ r_t2 rfl rfl (by omega) (fun _ _ => rfl) rfl ⟨rfl, Bw3⟩
set_option maxHeartbeats 4000000 in
set_option maxRecDepth 10000 in
theorem qDecode_2 (v0 : Value) (l0 : List UInt8) (w : World) (h0 : Bs w v0 l0) (hl : l0.length = 32) (hY : ¬ numL l0 32 % top < p25) : Calls Try.prog 10 #[v0] w fun e w' => e = .returned (.tuple #[.agg (arrOf 12 (qF 0 0 0)), .int .i64 12]) ∧ Below w.heap.size w w' := by
  have HYL := Lib.hid hY
  obtain ⟨gb, off, c0, rfl, y0, z0, hgb, hcells⟩ := h0.open_n hl (by decide)
  have HL := Lib.hid hl
  have HF0 := Lib.hid h0
  have f_b0 := h0
  obtain ⟨q, hq⟩ := nat_var ((l0.getD 31 0).toNat)
  have hql : q < 256 := by rw [hq]; exact UInt8.toNat_lt _
  have a1 := notand128 q hql
  obtain ⟨u, hu⟩ := nat_var (q % 128)
  rw [← hu] at a1
  have HUL : Hid (u < 256) := Lib.hid (by omega)
  have HQL := Lib.hid hql
  have HSG : Hid (numL l0 32 / top = q / 128) := Lib.hid (by rw [(numL_cut l0 hl).2, ← hq])
  have HCB : Hid (cutB l0 = l0.set 31 (UInt8.ofNat u)) := Lib.hid (by rw [hu, hq]; rfl)
  have HQ : Hid (∀ h : 31 < l0.length, (l0[31]'h).toNat = q) := Lib.hid fun h => by rw [hq, List.getD_eq_getElem?_getD, List.getElem?_eq_getElem h]; rfl
  have HC31 : Hid (∀ W, Below w.heap.size w W → W.cell? ⟨gb, off + 31, none⟩ = some (.int .u8 (q : Int))) := Lib.hid fun W hW => (bs_cell (h0.below hW (Nat.le_refl _)) 31 (by rw [hl]; decide)).trans (by rw [HQ.out])
  clear hq hql hu hcells h0 hl hY
  have Bw0 := Below.refl w.heap.size w
  have HGS : Hid (∀ wq : World, Below w.heap.size w wq → w.heap.size ≤ wq.heap.size) := Lib.hid fun wq h => h.size
  have HF_b0 := HF0
  go_enter Try.func10, Try.ntmps10
  go_wp2_with (first
    | (have hgo := Bw0; clear hgo
       refine wpList_alloc_row rfl 29 rfl 12 (u64f fun _ => 0) zeroQ ?_
       intro b_t2 w1 lk r_t2 kk
       have l_t2 := Nat.le_trans (HGS.out _ Bw0) lk
       have a_b0_t2 := Bs.away f_b0 lk
       replace f_b0 := Bs.below f_b0 kk (Nat.le_refl _)
       have Bw1 := Bw0.trans (kk.mono (HGS.out _ Bw0))
       clear Bw0 kk lk)
    | (have hgo := Bw1; clear hgo
       refine wpList_rows1 rfl (.tmp 13) rfl f_b0 rfl ?_
       intro v_r14 w3 F_r14 kk
       replace r_t2 := World.rowIs.of_block r_t2 (kk.block _ (World.rowIs.lt r_t2))
       replace f_b0 := Bs.below f_b0 kk (Nat.le_refl _)
       have Bw2 := Bw1.trans (kk.mono (HGS.out _ Bw1))
       clear Bw1 kk)
    | (have hgo := Bw2; clear hgo
       go_at_call 35
       refine (cat_any _ _ _ F_r14 (by rw [List.flatten_singleton, HL.out]; decide)).mono ?_
       rintro e w4 ⟨v_c, rfl, o_c, kk⟩
       rw [List.flatten_singleton] at o_c
       clear F_r14
       obtain ⟨g, cap, hv, hg, hgs, _, _⟩ := o_c.open_cons (by rw [HL.out]; decide)
       rw [HL.out] at hv
       subst hv
       have n_c : b_t2 ≠ g := Nat.ne_of_lt (Nat.lt_of_lt_of_le (World.rowIs.lt r_t2) hg)
       have HCAP : Hid (32 ≤ cap) := Lib.hid (owns_cap o_c)
       have HGB : Hid (w.heap.size ≤ g) := Lib.hid (Nat.le_trans (HGS.out _ Bw2) hg)
       replace o_c := o_c.lower (HGS.out _ Bw2)
       clear hg hgs
       replace r_t2 := World.rowIs.of_block r_t2 (kk.block _ (World.rowIs.lt r_t2))
       replace f_b0 := Bs.below f_b0 kk (Nat.le_refl _)
       have Bw3 := Bw2.trans (kk.mono (HGS.out _ Bw2))
       clear Bw2 kk)
    | (have hgo := Bw3; clear hgo
       refine wpList_load_byte rfl (.tmp 17) rfl 31 q o_c HL.out.symm (by rw [HL.out]; decide) rfl (HQ.out _) ?_
       have Bw4 := Bw3
       clear Bw3)
    | (have hgo := Bw4; clear hgo
       refine wpList_store_byte rfl (.tmp 20) (.tmp 19) rfl 31 u o_c HL.out.symm HCAP.out (by rw [HL.out]; decide) rfl rfl HUL.out ?_
       intro w5 o_d gk
       have Bw5 := Bw4.grown gk (HGS.out _ Bw4) (by intro k hk; cases hk; exact HGB.out)
       replace r_t2 := gb_rowIs r_t2 gk n_c
       replace f_b0 := HF_b0.out.below Bw5 (Nat.le_refl _)
       rw [← HCB.out] at o_d
       have f_d := o_d.bs
       clear Bw4 gk o_d o_c)
    | (have hgo := Bw5; clear hgo
       go_at_call 36
       refine (strict_no _ l0 _ _ f_d rfl HL.out HYL.out).mono ?_
       rintro e w7 ⟨rfl, kk⟩
       replace r_t2 := World.rowIs.of_block r_t2 (kk.block _ (World.rowIs.lt r_t2))
       replace f_b0 := Bs.below f_b0 kk (Nat.le_refl _)
       replace f_d := Bs.below f_d kk (Nat.le_refl _)
       have Bw6 := Bw5.trans (kk.mono (HGS.out _ Bw5))
       clear Bw5 kk)
    | (have hgo := Bw6; clear hgo
       refine wpList_alloc_row rfl 27 rfl 4 (u64f fun _ => 0) zeroE ?_
       intro b_t5 w11 lk r_t5 kk
       have n_t2_t5 : b_t2 ≠ b_t5 := Nat.ne_of_lt (Nat.lt_of_lt_of_le (World.rowIs.lt r_t2) lk)
       have l_t5 := Nat.le_trans (HGS.out _ Bw6) lk
       have a_b0_t5 := Bs.away f_b0 lk
       have a_d_t5 := Bs.away f_d lk
       replace r_t2 := World.rowIs.of_block r_t2 (kk.block _ (World.rowIs.lt r_t2))
       replace f_b0 := Bs.below f_b0 kk (Nat.le_refl _)
       replace f_d := Bs.below f_d kk (Nat.le_refl _)
       have Bw7 := Bw6.trans (kk.mono (HGS.out _ Bw6))
       clear Bw6 kk lk)
    | (have hgo := Bw7; clear hgo
       refine wpList_store_as rfl 27 (.tmp 5) (.tmp 24) rfl 4 (ewF 0) arrE r_t5 rfl rfl (by omega) (fun _ _ => rfl) (fun i hi => putN_whole hi) ?_
       intro w12 q gk
       replace r_t2 := gb_rowIs r_t2 gk n_t2_t5
       replace r_t5 := q
       have Bw8 := Bw7.grown gk (HGS.out _ Bw7) (by intro k hk; cases hk; exact l_t5)
       replace f_b0 := gb_bs f_b0 gk a_b0_t5
       replace f_d := gb_bs f_d gk a_d_t5
       clear Bw7 gk q)
    | (have hgo := Bw8; clear hgo
       refine wpList_build_arr rfl 29 #[] rfl (arrOf 12 (qF 0 0 0)) ?_ ?_
       · simp only [List.map_toArray, List.map_cons, List.map_nil]; exact builtQ0
       have Bw9 := Bw8
       clear Bw8)
    | (have hgo := Bw9; clear hgo
       refine wpList_store_as rfl 29 (.tmp 2) (.tmp 28) rfl 12 (qF 0 0 0) arrQ r_t2 rfl rfl (by omega) (fun j _ => qF_one _ _ _ j) (fun i hi => putN_whole hi) ?_
       intro w15 q gk
       replace r_t5 := gb_rowIs r_t5 gk (Ne.symm n_t2_t5)
       replace r_t2 := q
       have Bw10 := Bw9.grown gk (HGS.out _ Bw9) (by intro k hk; cases hk; exact l_t2)
       replace f_b0 := gb_bs f_b0 gk a_b0_t2
       clear f_d
       clear Bw9 gk q))
  exact ret_cell_as_tmp _ rfl arrQ r_t2 rfl rfl (by omega) (fun _ _ => rfl) rfl ⟨rfl, Bw10⟩
set_option maxHeartbeats 4000000 in
set_option maxRecDepth 10000 in
theorem qDecode_3 (v0 : Value) (l0 : List UInt8) (w : World) (h0 : Bs w v0 l0) (hl : l0.length = 32) (hY : numL l0 32 % top < p25) (hx : decX (numL l0 32 % top) = none) : Calls Try.prog 10 #[v0] w fun e w' => e = .returned (.tuple #[.agg (arrOf 12 (qF 0 0 0)), .int .i64 12]) ∧ Below w.heap.size w w' := by
  have HYL := Lib.hid hY
  obtain ⟨gb, off, c0, rfl, y0, z0, hgb, hcells⟩ := h0.open_n hl (by decide)
  have HL := Lib.hid hl
  have HF0 := Lib.hid h0
  have f_b0 := h0
  obtain ⟨q, hq⟩ := nat_var ((l0.getD 31 0).toNat)
  have hql : q < 256 := by rw [hq]; exact UInt8.toNat_lt _
  have a1 := notand128 q hql
  obtain ⟨u, hu⟩ := nat_var (q % 128)
  rw [← hu] at a1
  have HUL : Hid (u < 256) := Lib.hid (by omega)
  have HQL := Lib.hid hql
  have HSG : Hid (numL l0 32 / top = q / 128) := Lib.hid (by rw [(numL_cut l0 hl).2, ← hq])
  have HCB : Hid (cutB l0 = l0.set 31 (UInt8.ofNat u)) := Lib.hid (by rw [hu, hq]; rfl)
  have HQ : Hid (∀ h : 31 < l0.length, (l0[31]'h).toNat = q) := Lib.hid fun h => by rw [hq, List.getD_eq_getElem?_getD, List.getElem?_eq_getElem h]; rfl
  have HC31 : Hid (∀ W, Below w.heap.size w W → W.cell? ⟨gb, off + 31, none⟩ = some (.int .u8 (q : Int))) := Lib.hid fun W hW => (bs_cell (h0.below hW (Nat.le_refl _)) 31 (by rw [hl]; decide)).trans (by rw [HQ.out])
  obtain ⟨Y, hYv⟩ := nat_var (numL l0 32 % top)
  have HYv : Hid (numL l0 32 % top = Y) := Lib.hid hYv.symm
  have HY : Hid (Y < p25) := Lib.hid (by rw [hYv]; exact HYL.out)
  rw [← hYv] at hx
  have HRT := Lib.hid fun w => bes_none Y w HY.out hx
  obtain ⟨sg, hsg⟩ := nat_var (q / 128)
  have hsg2 : sg < 2 := by rw [hsg]; exact Nat.div_lt_of_lt_mul hql
  have a3 := and128 q hql
  rw [← hsg] at a3
  clear hsg
  rcases (show sg = 0 ∨ sg = 1 by omega) with rfl | rfl
  · have a2 : bits .and .u8 (q : Int) 128 = 0 := a3
    clear a3 hsg2 hx hYv
    clear hq hql hu hcells h0 hl hY
    have Bw0 := Below.refl w.heap.size w
    have HGS : Hid (∀ wq : World, Below w.heap.size w wq → w.heap.size ≤ wq.heap.size) := Lib.hid fun wq h => h.size
    have HF_b0 := HF0
    go_enter Try.func10, Try.ntmps10
    go_wp2_with (first
      | (have hgo := Bw0; clear hgo
         refine wpList_alloc_row rfl 29 rfl 12 (u64f fun _ => 0) zeroQ ?_
         intro b_t2 w1 lk r_t2 kk
         have l_t2 := Nat.le_trans (HGS.out _ Bw0) lk
         have a_b0_t2 := Bs.away f_b0 lk
         replace f_b0 := Bs.below f_b0 kk (Nat.le_refl _)
         have Bw1 := Bw0.trans (kk.mono (HGS.out _ Bw0))
         clear Bw0 kk lk)
      | (have hgo := Bw1; clear hgo
         refine wpList_rows1 rfl (.tmp 13) rfl f_b0 rfl ?_
         intro v_r14 w3 F_r14 kk
         replace r_t2 := World.rowIs.of_block r_t2 (kk.block _ (World.rowIs.lt r_t2))
         replace f_b0 := Bs.below f_b0 kk (Nat.le_refl _)
         have Bw2 := Bw1.trans (kk.mono (HGS.out _ Bw1))
         clear Bw1 kk)
      | (have hgo := Bw2; clear hgo
         go_at_call 35
         refine (cat_any _ _ _ F_r14 (by rw [List.flatten_singleton, HL.out]; decide)).mono ?_
         rintro e w4 ⟨v_c, rfl, o_c, kk⟩
         rw [List.flatten_singleton] at o_c
         clear F_r14
         obtain ⟨g, cap, hv, hg, hgs, _, _⟩ := o_c.open_cons (by rw [HL.out]; decide)
         rw [HL.out] at hv
         subst hv
         have n_c : b_t2 ≠ g := Nat.ne_of_lt (Nat.lt_of_lt_of_le (World.rowIs.lt r_t2) hg)
         have HCAP : Hid (32 ≤ cap) := Lib.hid (owns_cap o_c)
         have HGB : Hid (w.heap.size ≤ g) := Lib.hid (Nat.le_trans (HGS.out _ Bw2) hg)
         replace o_c := o_c.lower (HGS.out _ Bw2)
         clear hg hgs
         replace r_t2 := World.rowIs.of_block r_t2 (kk.block _ (World.rowIs.lt r_t2))
         replace f_b0 := Bs.below f_b0 kk (Nat.le_refl _)
         have Bw3 := Bw2.trans (kk.mono (HGS.out _ Bw2))
         clear Bw2 kk)
      | (have hgo := Bw3; clear hgo
         refine wpList_load_byte rfl (.tmp 17) rfl 31 q o_c HL.out.symm (by rw [HL.out]; decide) rfl (HQ.out _) ?_
         have Bw4 := Bw3
         clear Bw3)
      | (have hgo := Bw4; clear hgo
         refine wpList_store_byte rfl (.tmp 20) (.tmp 19) rfl 31 u o_c HL.out.symm HCAP.out (by rw [HL.out]; decide) rfl rfl HUL.out ?_
         intro w5 o_d gk
         have Bw5 := Bw4.grown gk (HGS.out _ Bw4) (by intro k hk; cases hk; exact HGB.out)
         replace r_t2 := gb_rowIs r_t2 gk n_c
         replace f_b0 := HF_b0.out.below Bw5 (Nat.le_refl _)
         rw [← HCB.out] at o_d
         have f_d := o_d.bs
         clear Bw4 gk o_d o_c)
      | (have hgo := Bw5; clear hgo
         go_at_call 36
         refine (strict_yes _ l0 _ Y _ f_d rfl HL.out HYv.out HY.out).mono ?_
         rintro e w7 ⟨rfl, kk⟩
         replace r_t2 := World.rowIs.of_block r_t2 (kk.block _ (World.rowIs.lt r_t2))
         replace f_b0 := Bs.below f_b0 kk (Nat.le_refl _)
         replace f_d := Bs.below f_d kk (Nat.le_refl _)
         have Bw6 := Bw5.trans (kk.mono (HGS.out _ Bw5))
         clear Bw5 kk)
      | (have hgo := Bw6; clear hgo
         refine wpList_alloc_row rfl 27 rfl 4 (u64f fun _ => 0) zeroE ?_
         intro b_t5 w11 lk r_t5 kk
         have n_t2_t5 : b_t2 ≠ b_t5 := Nat.ne_of_lt (Nat.lt_of_lt_of_le (World.rowIs.lt r_t2) lk)
         have l_t5 := Nat.le_trans (HGS.out _ Bw6) lk
         have a_b0_t5 := Bs.away f_b0 lk
         have a_d_t5 := Bs.away f_d lk
         replace r_t2 := World.rowIs.of_block r_t2 (kk.block _ (World.rowIs.lt r_t2))
         replace f_b0 := Bs.below f_b0 kk (Nat.le_refl _)
         replace f_d := Bs.below f_d kk (Nat.le_refl _)
         have Bw7 := Bw6.trans (kk.mono (HGS.out _ Bw6))
         clear Bw6 kk lk)
      | (have hgo := Bw7; clear hgo
         refine wpList_store_as rfl 27 (.tmp 5) (.tmp 24) rfl 4 (ewF Y) arrE r_t5 rfl rfl (by omega) (fun _ _ => rfl) (fun i hi => putN_whole hi) ?_
         intro w12 q gk
         replace r_t2 := gb_rowIs r_t2 gk n_t2_t5
         replace r_t5 := q
         have Bw8 := Bw7.grown gk (HGS.out _ Bw7) (by intro k hk; cases hk; exact l_t5)
         replace f_b0 := gb_bs f_b0 gk a_b0_t5
         replace f_d := gb_bs f_d gk a_d_t5
         clear Bw7 gk q)
      | (have hgo := Bw8; clear hgo
         refine wpList_load_cat rfl (.tmp 30) rfl (HC31.out _ Bw8) rfl ?_
         have Bw9 := Bw8
         clear Bw8)
      | (have hgo := Bw9; clear hgo
         refine wpList_load_as rfl 27 (.tmp 5) rfl 4 (ewF Y) arrE r_t5 rfl (by omega) (fun i hi => by rw [Nat.zero_add]) ?_
         have Bw10 := Bw9
         clear Bw9)
      | (have hgo := Bw10; clear hgo
         go_at_call 37
         refine (HRT.out _).mono ?_
         rintro e w21 ⟨rfl, kk⟩
         replace r_t2 := World.rowIs.of_block r_t2 (kk.block _ (World.rowIs.lt r_t2))
         replace r_t5 := World.rowIs.of_block r_t5 (kk.block _ (World.rowIs.lt r_t5))
         replace f_b0 := Bs.below f_b0 kk (Nat.le_refl _)
         replace f_d := Bs.below f_d kk (Nat.le_refl _)
         have Bw11 := Bw10.trans (kk.mono (HGS.out _ Bw10))
         clear Bw10 kk)
      | (have hgo := Bw11; clear hgo
         refine wpList_alloc_row rfl 27 rfl 4 (u64f fun _ => 0) zeroE ?_
         intro b_t8 w25 lk r_t8 kk
         have n_t2_t8 : b_t2 ≠ b_t8 := Nat.ne_of_lt (Nat.lt_of_lt_of_le (World.rowIs.lt r_t2) lk)
         have n_t5_t8 : b_t5 ≠ b_t8 := Nat.ne_of_lt (Nat.lt_of_lt_of_le (World.rowIs.lt r_t5) lk)
         have l_t8 := Nat.le_trans (HGS.out _ Bw11) lk
         have a_b0_t8 := Bs.away f_b0 lk
         have a_d_t8 := Bs.away f_d lk
         replace r_t2 := World.rowIs.of_block r_t2 (kk.block _ (World.rowIs.lt r_t2))
         replace r_t5 := World.rowIs.of_block r_t5 (kk.block _ (World.rowIs.lt r_t5))
         replace f_b0 := Bs.below f_b0 kk (Nat.le_refl _)
         replace f_d := Bs.below f_d kk (Nat.le_refl _)
         have Bw12 := Bw11.trans (kk.mono (HGS.out _ Bw11))
         clear Bw11 kk lk)
      | (have hgo := Bw12; clear hgo
         refine wpList_store_as rfl 27 (.tmp 8) (.tmp 37) rfl 4 (ewF 0) arrE r_t8 rfl rfl (by omega) (fun _ _ => rfl) (fun i hi => putN_whole hi) ?_
         intro w26 q gk
         replace r_t2 := gb_rowIs r_t2 gk n_t2_t8
         replace r_t5 := gb_rowIs r_t5 gk n_t5_t8
         replace r_t8 := q
         have Bw13 := Bw12.grown gk (HGS.out _ Bw12) (by intro k hk; cases hk; exact l_t8)
         replace f_b0 := gb_bs f_b0 gk a_b0_t8
         replace f_d := gb_bs f_d gk a_d_t8
         clear Bw12 gk q)
      | (have hgo := Bw13; clear hgo
         refine wpList_build_arr rfl 29 #[] rfl (arrOf 12 (qF 0 0 0)) ?_ ?_
         · simp only [List.map_toArray, List.map_cons, List.map_nil]; exact builtQ0
         have Bw14 := Bw13
         clear Bw13)
      | (have hgo := Bw14; clear hgo
         refine wpList_store_as rfl 29 (.tmp 2) (.tmp 49) rfl 12 (qF 0 0 0) arrQ r_t2 rfl rfl (by omega) (fun j _ => qF_one _ _ _ j) (fun i hi => putN_whole hi) ?_
         intro w39 q gk
         replace r_t5 := gb_rowIs r_t5 gk (Ne.symm n_t2_t5)
         replace r_t8 := gb_rowIs r_t8 gk (Ne.symm n_t2_t8)
         replace r_t2 := q
         have Bw15 := Bw14.grown gk (HGS.out _ Bw14) (by intro k hk; cases hk; exact l_t2)
         replace f_b0 := gb_bs f_b0 gk a_b0_t2
         clear f_d
         clear Bw14 gk q))
    exact ret_cell_as_tmp _ rfl arrQ r_t2 rfl rfl (by omega) (fun _ _ => rfl) rfl ⟨rfl, Bw15⟩
  · have a2 : bits .and .u8 (q : Int) 128 = 128 := a3
    clear a3 hsg2 hx hYv
    clear hq hql hu hcells h0 hl hY
    have Bw0 := Below.refl w.heap.size w
    have HGS : Hid (∀ wq : World, Below w.heap.size w wq → w.heap.size ≤ wq.heap.size) := Lib.hid fun wq h => h.size
    have HF_b0 := HF0
    go_enter Try.func10, Try.ntmps10
    go_wp2_with (first
      | (have hgo := Bw0; clear hgo
         refine wpList_alloc_row rfl 29 rfl 12 (u64f fun _ => 0) zeroQ ?_
         intro b_t2 w1 lk r_t2 kk
         have l_t2 := Nat.le_trans (HGS.out _ Bw0) lk
         have a_b0_t2 := Bs.away f_b0 lk
         replace f_b0 := Bs.below f_b0 kk (Nat.le_refl _)
         have Bw1 := Bw0.trans (kk.mono (HGS.out _ Bw0))
         clear Bw0 kk lk)
      | (have hgo := Bw1; clear hgo
         refine wpList_rows1 rfl (.tmp 13) rfl f_b0 rfl ?_
         intro v_r14 w3 F_r14 kk
         replace r_t2 := World.rowIs.of_block r_t2 (kk.block _ (World.rowIs.lt r_t2))
         replace f_b0 := Bs.below f_b0 kk (Nat.le_refl _)
         have Bw2 := Bw1.trans (kk.mono (HGS.out _ Bw1))
         clear Bw1 kk)
      | (have hgo := Bw2; clear hgo
         go_at_call 35
         refine (cat_any _ _ _ F_r14 (by rw [List.flatten_singleton, HL.out]; decide)).mono ?_
         rintro e w4 ⟨v_c, rfl, o_c, kk⟩
         rw [List.flatten_singleton] at o_c
         clear F_r14
         obtain ⟨g, cap, hv, hg, hgs, _, _⟩ := o_c.open_cons (by rw [HL.out]; decide)
         rw [HL.out] at hv
         subst hv
         have n_c : b_t2 ≠ g := Nat.ne_of_lt (Nat.lt_of_lt_of_le (World.rowIs.lt r_t2) hg)
         have HCAP : Hid (32 ≤ cap) := Lib.hid (owns_cap o_c)
         have HGB : Hid (w.heap.size ≤ g) := Lib.hid (Nat.le_trans (HGS.out _ Bw2) hg)
         replace o_c := o_c.lower (HGS.out _ Bw2)
         clear hg hgs
         replace r_t2 := World.rowIs.of_block r_t2 (kk.block _ (World.rowIs.lt r_t2))
         replace f_b0 := Bs.below f_b0 kk (Nat.le_refl _)
         have Bw3 := Bw2.trans (kk.mono (HGS.out _ Bw2))
         clear Bw2 kk)
      | (have hgo := Bw3; clear hgo
         refine wpList_load_byte rfl (.tmp 17) rfl 31 q o_c HL.out.symm (by rw [HL.out]; decide) rfl (HQ.out _) ?_
         have Bw4 := Bw3
         clear Bw3)
      | (have hgo := Bw4; clear hgo
         refine wpList_store_byte rfl (.tmp 20) (.tmp 19) rfl 31 u o_c HL.out.symm HCAP.out (by rw [HL.out]; decide) rfl rfl HUL.out ?_
         intro w5 o_d gk
         have Bw5 := Bw4.grown gk (HGS.out _ Bw4) (by intro k hk; cases hk; exact HGB.out)
         replace r_t2 := gb_rowIs r_t2 gk n_c
         replace f_b0 := HF_b0.out.below Bw5 (Nat.le_refl _)
         rw [← HCB.out] at o_d
         have f_d := o_d.bs
         clear Bw4 gk o_d o_c)
      | (have hgo := Bw5; clear hgo
         go_at_call 36
         refine (strict_yes _ l0 _ Y _ f_d rfl HL.out HYv.out HY.out).mono ?_
         rintro e w7 ⟨rfl, kk⟩
         replace r_t2 := World.rowIs.of_block r_t2 (kk.block _ (World.rowIs.lt r_t2))
         replace f_b0 := Bs.below f_b0 kk (Nat.le_refl _)
         replace f_d := Bs.below f_d kk (Nat.le_refl _)
         have Bw6 := Bw5.trans (kk.mono (HGS.out _ Bw5))
         clear Bw5 kk)
      | (have hgo := Bw6; clear hgo
         refine wpList_alloc_row rfl 27 rfl 4 (u64f fun _ => 0) zeroE ?_
         intro b_t5 w11 lk r_t5 kk
         have n_t2_t5 : b_t2 ≠ b_t5 := Nat.ne_of_lt (Nat.lt_of_lt_of_le (World.rowIs.lt r_t2) lk)
         have l_t5 := Nat.le_trans (HGS.out _ Bw6) lk
         have a_b0_t5 := Bs.away f_b0 lk
         have a_d_t5 := Bs.away f_d lk
         replace r_t2 := World.rowIs.of_block r_t2 (kk.block _ (World.rowIs.lt r_t2))
         replace f_b0 := Bs.below f_b0 kk (Nat.le_refl _)
         replace f_d := Bs.below f_d kk (Nat.le_refl _)
         have Bw7 := Bw6.trans (kk.mono (HGS.out _ Bw6))
         clear Bw6 kk lk)
      | (have hgo := Bw7; clear hgo
         refine wpList_store_as rfl 27 (.tmp 5) (.tmp 24) rfl 4 (ewF Y) arrE r_t5 rfl rfl (by omega) (fun _ _ => rfl) (fun i hi => putN_whole hi) ?_
         intro w12 q gk
         replace r_t2 := gb_rowIs r_t2 gk n_t2_t5
         replace r_t5 := q
         have Bw8 := Bw7.grown gk (HGS.out _ Bw7) (by intro k hk; cases hk; exact l_t5)
         replace f_b0 := gb_bs f_b0 gk a_b0_t5
         replace f_d := gb_bs f_d gk a_d_t5
         clear Bw7 gk q)
      | (have hgo := Bw8; clear hgo
         refine wpList_load_cat rfl (.tmp 30) rfl (HC31.out _ Bw8) rfl ?_
         have Bw9 := Bw8
         clear Bw8)
      | (have hgo := Bw9; clear hgo
         refine wpList_load_as rfl 27 (.tmp 5) rfl 4 (ewF Y) arrE r_t5 rfl (by omega) (fun i hi => by rw [Nat.zero_add]) ?_
         have Bw10 := Bw9
         clear Bw9)
      | (have hgo := Bw10; clear hgo
         go_at_call 37
         refine (HRT.out _).mono ?_
         rintro e w21 ⟨rfl, kk⟩
         replace r_t2 := World.rowIs.of_block r_t2 (kk.block _ (World.rowIs.lt r_t2))
         replace r_t5 := World.rowIs.of_block r_t5 (kk.block _ (World.rowIs.lt r_t5))
         replace f_b0 := Bs.below f_b0 kk (Nat.le_refl _)
         replace f_d := Bs.below f_d kk (Nat.le_refl _)
         have Bw11 := Bw10.trans (kk.mono (HGS.out _ Bw10))
         clear Bw10 kk)
      | (have hgo := Bw11; clear hgo
         refine wpList_alloc_row rfl 27 rfl 4 (u64f fun _ => 0) zeroE ?_
         intro b_t8 w25 lk r_t8 kk
         have n_t2_t8 : b_t2 ≠ b_t8 := Nat.ne_of_lt (Nat.lt_of_lt_of_le (World.rowIs.lt r_t2) lk)
         have n_t5_t8 : b_t5 ≠ b_t8 := Nat.ne_of_lt (Nat.lt_of_lt_of_le (World.rowIs.lt r_t5) lk)
         have l_t8 := Nat.le_trans (HGS.out _ Bw11) lk
         have a_b0_t8 := Bs.away f_b0 lk
         have a_d_t8 := Bs.away f_d lk
         replace r_t2 := World.rowIs.of_block r_t2 (kk.block _ (World.rowIs.lt r_t2))
         replace r_t5 := World.rowIs.of_block r_t5 (kk.block _ (World.rowIs.lt r_t5))
         replace f_b0 := Bs.below f_b0 kk (Nat.le_refl _)
         replace f_d := Bs.below f_d kk (Nat.le_refl _)
         have Bw12 := Bw11.trans (kk.mono (HGS.out _ Bw11))
         clear Bw11 kk lk)
      | (have hgo := Bw12; clear hgo
         refine wpList_store_as rfl 27 (.tmp 8) (.tmp 37) rfl 4 (ewF 0) arrE r_t8 rfl rfl (by omega) (fun _ _ => rfl) (fun i hi => putN_whole hi) ?_
         intro w26 q gk
         replace r_t2 := gb_rowIs r_t2 gk n_t2_t8
         replace r_t5 := gb_rowIs r_t5 gk n_t5_t8
         replace r_t8 := q
         have Bw13 := Bw12.grown gk (HGS.out _ Bw12) (by intro k hk; cases hk; exact l_t8)
         replace f_b0 := gb_bs f_b0 gk a_b0_t8
         replace f_d := gb_bs f_d gk a_d_t8
         clear Bw12 gk q)
      | (have hgo := Bw13; clear hgo
         refine wpList_build_arr rfl 29 #[] rfl (arrOf 12 (qF 0 0 0)) ?_ ?_
         · simp only [List.map_toArray, List.map_cons, List.map_nil]; exact builtQ0
         have Bw14 := Bw13
         clear Bw13)
      | (have hgo := Bw14; clear hgo
         refine wpList_store_as rfl 29 (.tmp 2) (.tmp 49) rfl 12 (qF 0 0 0) arrQ r_t2 rfl rfl (by omega) (fun j _ => qF_one _ _ _ j) (fun i hi => putN_whole hi) ?_
         intro w39 q gk
         replace r_t5 := gb_rowIs r_t5 gk (Ne.symm n_t2_t5)
         replace r_t8 := gb_rowIs r_t8 gk (Ne.symm n_t2_t8)
         replace r_t2 := q
         have Bw15 := Bw14.grown gk (HGS.out _ Bw14) (by intro k hk; cases hk; exact l_t2)
         replace f_b0 := gb_bs f_b0 gk a_b0_t2
         clear f_d
         clear Bw14 gk q))
    exact ret_cell_as_tmp _ rfl arrQ r_t2 rfl rfl (by omega) (fun _ _ => rfl) rfl ⟨rfl, Bw15⟩
set_option maxHeartbeats 4000000 in
set_option maxRecDepth 10000 in
theorem qDecode_4 (v0 : Value) (l0 : List UInt8) (w : World) (h0 : Bs w v0 l0) (hl : l0.length = 32) (hY : numL l0 32 % top < p25) (x : Nat) (hx : decX (numL l0 32 % top) = some x) (ho : numL l0 32 / top = 1) (hx0 : x = 0) : Calls Try.prog 10 #[v0] w fun e w' => e = .returned (.tuple #[.agg (arrOf 12 (qF 0 0 0)), .int .i64 12]) ∧ Below w.heap.size w w' := by
  have HYL := Lib.hid hY
  obtain ⟨gb, off, c0, rfl, y0, z0, hgb, hcells⟩ := h0.open_n hl (by decide)
  have HL := Lib.hid hl
  have HF0 := Lib.hid h0
  have f_b0 := h0
  obtain ⟨q, hq⟩ := nat_var ((l0.getD 31 0).toNat)
  have hql : q < 256 := by rw [hq]; exact UInt8.toNat_lt _
  have a1 := notand128 q hql
  obtain ⟨u, hu⟩ := nat_var (q % 128)
  rw [← hu] at a1
  have HUL : Hid (u < 256) := Lib.hid (by omega)
  have HQL := Lib.hid hql
  have HSG : Hid (numL l0 32 / top = q / 128) := Lib.hid (by rw [(numL_cut l0 hl).2, ← hq])
  have HCB : Hid (cutB l0 = l0.set 31 (UInt8.ofNat u)) := Lib.hid (by rw [hu, hq]; rfl)
  have HQ : Hid (∀ h : 31 < l0.length, (l0[31]'h).toNat = q) := Lib.hid fun h => by rw [hq, List.getD_eq_getElem?_getD, List.getElem?_eq_getElem h]; rfl
  have HC31 : Hid (∀ W, Below w.heap.size w W → W.cell? ⟨gb, off + 31, none⟩ = some (.int .u8 (q : Int))) := Lib.hid fun W hW => (bs_cell (h0.below hW (Nat.le_refl _)) 31 (by rw [hl]; decide)).trans (by rw [HQ.out])
  obtain ⟨Y, hYv⟩ := nat_var (numL l0 32 % top)
  have HYv : Hid (numL l0 32 % top = Y) := Lib.hid hYv.symm
  have HY : Hid (Y < p25) := Lib.hid (by rw [hYv]; exact HYL.out)
  rw [← hYv] at hx
  have HRT := Lib.hid fun w => bes_some Y x w HY.out hx
  have Hx : Hid (x < p25) := Lib.hid (decX_some HY.out hx).1.1
  have a2 : bits .and .u8 (q : Int) 128 = 128 := by have h := and128 q hql; rw [← HSG.out, ho] at h; exact h
  have HX0 := Lib.hid (decide_eq_true hx0)
  clear hx0
  clear ho
  clear hx hYv
  clear hq hql hu hcells h0 hl hY
  have Bw0 := Below.refl w.heap.size w
  have HGS : Hid (∀ wq : World, Below w.heap.size w wq → w.heap.size ≤ wq.heap.size) := Lib.hid fun wq h => h.size
  have HF_b0 := HF0
  go_enter Try.func10, Try.ntmps10
  go_wp2_with (first
    | (have hgo := Bw0; clear hgo
       refine wpList_alloc_row rfl 29 rfl 12 (u64f fun _ => 0) zeroQ ?_
       intro b_t2 w1 lk r_t2 kk
       have l_t2 := Nat.le_trans (HGS.out _ Bw0) lk
       have a_b0_t2 := Bs.away f_b0 lk
       replace f_b0 := Bs.below f_b0 kk (Nat.le_refl _)
       have Bw1 := Bw0.trans (kk.mono (HGS.out _ Bw0))
       clear Bw0 kk lk)
    | (have hgo := Bw1; clear hgo
       refine wpList_rows1 rfl (.tmp 13) rfl f_b0 rfl ?_
       intro v_r14 w3 F_r14 kk
       replace r_t2 := World.rowIs.of_block r_t2 (kk.block _ (World.rowIs.lt r_t2))
       replace f_b0 := Bs.below f_b0 kk (Nat.le_refl _)
       have Bw2 := Bw1.trans (kk.mono (HGS.out _ Bw1))
       clear Bw1 kk)
    | (have hgo := Bw2; clear hgo
       go_at_call 35
       refine (cat_any _ _ _ F_r14 (by rw [List.flatten_singleton, HL.out]; decide)).mono ?_
       rintro e w4 ⟨v_c, rfl, o_c, kk⟩
       rw [List.flatten_singleton] at o_c
       clear F_r14
       obtain ⟨g, cap, hv, hg, hgs, _, _⟩ := o_c.open_cons (by rw [HL.out]; decide)
       rw [HL.out] at hv
       subst hv
       have n_c : b_t2 ≠ g := Nat.ne_of_lt (Nat.lt_of_lt_of_le (World.rowIs.lt r_t2) hg)
       have HCAP : Hid (32 ≤ cap) := Lib.hid (owns_cap o_c)
       have HGB : Hid (w.heap.size ≤ g) := Lib.hid (Nat.le_trans (HGS.out _ Bw2) hg)
       replace o_c := o_c.lower (HGS.out _ Bw2)
       clear hg hgs
       replace r_t2 := World.rowIs.of_block r_t2 (kk.block _ (World.rowIs.lt r_t2))
       replace f_b0 := Bs.below f_b0 kk (Nat.le_refl _)
       have Bw3 := Bw2.trans (kk.mono (HGS.out _ Bw2))
       clear Bw2 kk)
    | (have hgo := Bw3; clear hgo
       refine wpList_load_byte rfl (.tmp 17) rfl 31 q o_c HL.out.symm (by rw [HL.out]; decide) rfl (HQ.out _) ?_
       have Bw4 := Bw3
       clear Bw3)
    | (have hgo := Bw4; clear hgo
       refine wpList_store_byte rfl (.tmp 20) (.tmp 19) rfl 31 u o_c HL.out.symm HCAP.out (by rw [HL.out]; decide) rfl rfl HUL.out ?_
       intro w5 o_d gk
       have Bw5 := Bw4.grown gk (HGS.out _ Bw4) (by intro k hk; cases hk; exact HGB.out)
       replace r_t2 := gb_rowIs r_t2 gk n_c
       replace f_b0 := HF_b0.out.below Bw5 (Nat.le_refl _)
       rw [← HCB.out] at o_d
       have f_d := o_d.bs
       clear Bw4 gk o_d o_c)
    | (have hgo := Bw5; clear hgo
       go_at_call 36
       refine (strict_yes _ l0 _ Y _ f_d rfl HL.out HYv.out HY.out).mono ?_
       rintro e w7 ⟨rfl, kk⟩
       replace r_t2 := World.rowIs.of_block r_t2 (kk.block _ (World.rowIs.lt r_t2))
       replace f_b0 := Bs.below f_b0 kk (Nat.le_refl _)
       replace f_d := Bs.below f_d kk (Nat.le_refl _)
       have Bw6 := Bw5.trans (kk.mono (HGS.out _ Bw5))
       clear Bw5 kk)
    | (have hgo := Bw6; clear hgo
       refine wpList_alloc_row rfl 27 rfl 4 (u64f fun _ => 0) zeroE ?_
       intro b_t5 w11 lk r_t5 kk
       have n_t2_t5 : b_t2 ≠ b_t5 := Nat.ne_of_lt (Nat.lt_of_lt_of_le (World.rowIs.lt r_t2) lk)
       have l_t5 := Nat.le_trans (HGS.out _ Bw6) lk
       have a_b0_t5 := Bs.away f_b0 lk
       have a_d_t5 := Bs.away f_d lk
       replace r_t2 := World.rowIs.of_block r_t2 (kk.block _ (World.rowIs.lt r_t2))
       replace f_b0 := Bs.below f_b0 kk (Nat.le_refl _)
       replace f_d := Bs.below f_d kk (Nat.le_refl _)
       have Bw7 := Bw6.trans (kk.mono (HGS.out _ Bw6))
       clear Bw6 kk lk)
    | (have hgo := Bw7; clear hgo
       refine wpList_store_as rfl 27 (.tmp 5) (.tmp 24) rfl 4 (ewF Y) arrE r_t5 rfl rfl (by omega) (fun _ _ => rfl) (fun i hi => putN_whole hi) ?_
       intro w12 q gk
       replace r_t2 := gb_rowIs r_t2 gk n_t2_t5
       replace r_t5 := q
       have Bw8 := Bw7.grown gk (HGS.out _ Bw7) (by intro k hk; cases hk; exact l_t5)
       replace f_b0 := gb_bs f_b0 gk a_b0_t5
       replace f_d := gb_bs f_d gk a_d_t5
       clear Bw7 gk q)
    | (have hgo := Bw8; clear hgo
       refine wpList_load_cat rfl (.tmp 30) rfl (HC31.out _ Bw8) rfl ?_
       have Bw9 := Bw8
       clear Bw8)
    | (have hgo := Bw9; clear hgo
       refine wpList_load_as rfl 27 (.tmp 5) rfl 4 (ewF Y) arrE r_t5 rfl (by omega) (fun i hi => by rw [Nat.zero_add]) ?_
       have Bw10 := Bw9
       clear Bw9)
    | (have hgo := Bw10; clear hgo
       go_at_call 37
       refine (HRT.out _).mono ?_
       rintro e w21 ⟨rfl, kk⟩
       replace r_t2 := World.rowIs.of_block r_t2 (kk.block _ (World.rowIs.lt r_t2))
       replace r_t5 := World.rowIs.of_block r_t5 (kk.block _ (World.rowIs.lt r_t5))
       replace f_b0 := Bs.below f_b0 kk (Nat.le_refl _)
       replace f_d := Bs.below f_d kk (Nat.le_refl _)
       have Bw11 := Bw10.trans (kk.mono (HGS.out _ Bw10))
       clear Bw10 kk)
    | (have hgo := Bw11; clear hgo
       refine wpList_alloc_row rfl 27 rfl 4 (u64f fun _ => 0) zeroE ?_
       intro b_t8 w25 lk r_t8 kk
       have n_t2_t8 : b_t2 ≠ b_t8 := Nat.ne_of_lt (Nat.lt_of_lt_of_le (World.rowIs.lt r_t2) lk)
       have n_t5_t8 : b_t5 ≠ b_t8 := Nat.ne_of_lt (Nat.lt_of_lt_of_le (World.rowIs.lt r_t5) lk)
       have l_t8 := Nat.le_trans (HGS.out _ Bw11) lk
       have a_b0_t8 := Bs.away f_b0 lk
       have a_d_t8 := Bs.away f_d lk
       replace r_t2 := World.rowIs.of_block r_t2 (kk.block _ (World.rowIs.lt r_t2))
       replace r_t5 := World.rowIs.of_block r_t5 (kk.block _ (World.rowIs.lt r_t5))
       replace f_b0 := Bs.below f_b0 kk (Nat.le_refl _)
       replace f_d := Bs.below f_d kk (Nat.le_refl _)
       have Bw12 := Bw11.trans (kk.mono (HGS.out _ Bw11))
       clear Bw11 kk lk)
    | (have hgo := Bw12; clear hgo
       refine wpList_store_as rfl 27 (.tmp 8) (.tmp 37) rfl 4 (ewF x) arrE r_t8 rfl rfl (by omega) (fun _ _ => rfl) (fun i hi => putN_whole hi) ?_
       intro w26 q gk
       replace r_t2 := gb_rowIs r_t2 gk n_t2_t8
       replace r_t5 := gb_rowIs r_t5 gk n_t5_t8
       replace r_t8 := q
       have Bw13 := Bw12.grown gk (HGS.out _ Bw12) (by intro k hk; cases hk; exact l_t8)
       replace f_b0 := gb_bs f_b0 gk a_b0_t8
       replace f_d := gb_bs f_d gk a_d_t8
       clear Bw12 gk q)
    | (have hgo := Bw13; clear hgo
       refine wpList_load_asg rfl 27 (.tmp 8) rfl 4 (ewF x) arrE r_t8 rfl (by omega) (fun i hi => by rw [Nat.zero_add]) ?_
       have Bw14 := Bw13
       clear Bw13)
    | (have hgo := Bw14; clear hgo
       refine wpList_value_given rfl (.agg (arrOf 4 (ewF 0))) (by rw [exec_mkOp]; exact exec_zeroE _ _) ?_
       have Bw15 := Bw14
       clear Bw14)
    | (have hgo := Bw15; clear hgo
       go_at_call 38
       refine (sameB_any x 0 true _ Hx.out p25_pos HX0.out).mono ?_
       rintro e w35 ⟨rfl, kk⟩
       replace r_t2 := World.rowIs.of_block r_t2 (kk.block _ (World.rowIs.lt r_t2))
       replace r_t5 := World.rowIs.of_block r_t5 (kk.block _ (World.rowIs.lt r_t5))
       replace r_t8 := World.rowIs.of_block r_t8 (kk.block _ (World.rowIs.lt r_t8))
       replace f_b0 := Bs.below f_b0 kk (Nat.le_refl _)
       replace f_d := Bs.below f_d kk (Nat.le_refl _)
       have Bw16 := Bw15.trans (kk.mono (HGS.out _ Bw15))
       clear Bw15 kk)
    | (have hgo := Bw16; clear hgo
       refine wpList_build_arr rfl 29 #[] rfl (arrOf 12 (qF 0 0 0)) ?_ ?_
       · simp only [List.map_toArray, List.map_cons, List.map_nil]; exact builtQ0
       have Bw17 := Bw16
       clear Bw16)
    | (have hgo := Bw17; clear hgo
       refine wpList_store_as rfl 29 (.tmp 2) (.tmp 49) rfl 12 (qF 0 0 0) arrQ r_t2 rfl rfl (by omega) (fun j _ => qF_one _ _ _ j) (fun i hi => putN_whole hi) ?_
       intro w39 q gk
       replace r_t5 := gb_rowIs r_t5 gk (Ne.symm n_t2_t5)
       replace r_t8 := gb_rowIs r_t8 gk (Ne.symm n_t2_t8)
       replace r_t2 := q
       have Bw18 := Bw17.grown gk (HGS.out _ Bw17) (by intro k hk; cases hk; exact l_t2)
       replace f_b0 := gb_bs f_b0 gk a_b0_t2
       clear f_d
       clear Bw17 gk q))
  exact ret_cell_as_tmp _ rfl arrQ r_t2 rfl rfl (by omega) (fun _ _ => rfl) rfl ⟨rfl, Bw18⟩
set_option maxHeartbeats 4000000 in
set_option maxRecDepth 10000 in
theorem qDecode_5 (v0 : Value) (l0 : List UInt8) (w : World) (h0 : Bs w v0 l0) (hl : l0.length = 32) (hY : numL l0 32 % top < p25) (x : Nat) (hx : decX (numL l0 32 % top) = some x) (ho : numL l0 32 / top = 0) : Calls Try.prog 10 #[v0] w fun e w' => e = .returned (.tuple #[.agg (arrOf 12 (qF x (numL l0 32 % top) 1)), .int .i64 0]) ∧ Below w.heap.size w w' := by
  have HYL := Lib.hid hY
  obtain ⟨gb, off, c0, rfl, y0, z0, hgb, hcells⟩ := h0.open_n hl (by decide)
  have HL := Lib.hid hl
  have HF0 := Lib.hid h0
  have f_b0 := h0
  obtain ⟨q, hq⟩ := nat_var ((l0.getD 31 0).toNat)
  have hql : q < 256 := by rw [hq]; exact UInt8.toNat_lt _
  have a1 := notand128 q hql
  obtain ⟨u, hu⟩ := nat_var (q % 128)
  rw [← hu] at a1
  have HUL : Hid (u < 256) := Lib.hid (by omega)
  have HQL := Lib.hid hql
  have HSG : Hid (numL l0 32 / top = q / 128) := Lib.hid (by rw [(numL_cut l0 hl).2, ← hq])
  have HCB : Hid (cutB l0 = l0.set 31 (UInt8.ofNat u)) := Lib.hid (by rw [hu, hq]; rfl)
  have HQ : Hid (∀ h : 31 < l0.length, (l0[31]'h).toNat = q) := Lib.hid fun h => by rw [hq, List.getD_eq_getElem?_getD, List.getElem?_eq_getElem h]; rfl
  have HC31 : Hid (∀ W, Below w.heap.size w W → W.cell? ⟨gb, off + 31, none⟩ = some (.int .u8 (q : Int))) := Lib.hid fun W hW => (bs_cell (h0.below hW (Nat.le_refl _)) 31 (by rw [hl]; decide)).trans (by rw [HQ.out])
  obtain ⟨Y, hYv⟩ := nat_var (numL l0 32 % top)
  have HYv : Hid (numL l0 32 % top = Y) := Lib.hid hYv.symm
  have HY : Hid (Y < p25) := Lib.hid (by rw [hYv]; exact HYL.out)
  rw [← hYv] at hx
  have HRT := Lib.hid fun w => bes_some Y x w HY.out hx
  have Hx : Hid (x < p25) := Lib.hid (decX_some HY.out hx).1.1
  have a2 : bits .and .u8 (q : Int) 128 = 0 := by have h := and128 q hql; rw [← HSG.out, ho] at h; exact h
  clear ho
  clear hx hYv
  clear hq hql hu hcells h0 hl hY
  have Bw0 := Below.refl w.heap.size w
  have HGS : Hid (∀ wq : World, Below w.heap.size w wq → w.heap.size ≤ wq.heap.size) := Lib.hid fun wq h => h.size
  have HF_b0 := HF0
  go_enter Try.func10, Try.ntmps10
  go_wp2_with (first
    | (have hgo := Bw0; clear hgo
       refine wpList_alloc_row rfl 29 rfl 12 (u64f fun _ => 0) zeroQ ?_
       intro b_t2 w1 lk r_t2 kk
       have l_t2 := Nat.le_trans (HGS.out _ Bw0) lk
       have a_b0_t2 := Bs.away f_b0 lk
       replace f_b0 := Bs.below f_b0 kk (Nat.le_refl _)
       have Bw1 := Bw0.trans (kk.mono (HGS.out _ Bw0))
       clear Bw0 kk lk)
    | (have hgo := Bw1; clear hgo
       refine wpList_rows1 rfl (.tmp 13) rfl f_b0 rfl ?_
       intro v_r14 w3 F_r14 kk
       replace r_t2 := World.rowIs.of_block r_t2 (kk.block _ (World.rowIs.lt r_t2))
       replace f_b0 := Bs.below f_b0 kk (Nat.le_refl _)
       have Bw2 := Bw1.trans (kk.mono (HGS.out _ Bw1))
       clear Bw1 kk)
    | (have hgo := Bw2; clear hgo
       go_at_call 35
       refine (cat_any _ _ _ F_r14 (by rw [List.flatten_singleton, HL.out]; decide)).mono ?_
       rintro e w4 ⟨v_c, rfl, o_c, kk⟩
       rw [List.flatten_singleton] at o_c
       clear F_r14
       obtain ⟨g, cap, hv, hg, hgs, _, _⟩ := o_c.open_cons (by rw [HL.out]; decide)
       rw [HL.out] at hv
       subst hv
       have n_c : b_t2 ≠ g := Nat.ne_of_lt (Nat.lt_of_lt_of_le (World.rowIs.lt r_t2) hg)
       have HCAP : Hid (32 ≤ cap) := Lib.hid (owns_cap o_c)
       have HGB : Hid (w.heap.size ≤ g) := Lib.hid (Nat.le_trans (HGS.out _ Bw2) hg)
       replace o_c := o_c.lower (HGS.out _ Bw2)
       clear hg hgs
       replace r_t2 := World.rowIs.of_block r_t2 (kk.block _ (World.rowIs.lt r_t2))
       replace f_b0 := Bs.below f_b0 kk (Nat.le_refl _)
       have Bw3 := Bw2.trans (kk.mono (HGS.out _ Bw2))
       clear Bw2 kk)
    | (have hgo := Bw3; clear hgo
       refine wpList_load_byte rfl (.tmp 17) rfl 31 q o_c HL.out.symm (by rw [HL.out]; decide) rfl (HQ.out _) ?_
       have Bw4 := Bw3
       clear Bw3)
    | (have hgo := Bw4; clear hgo
       refine wpList_store_byte rfl (.tmp 20) (.tmp 19) rfl 31 u o_c HL.out.symm HCAP.out (by rw [HL.out]; decide) rfl rfl HUL.out ?_
       intro w5 o_d gk
       have Bw5 := Bw4.grown gk (HGS.out _ Bw4) (by intro k hk; cases hk; exact HGB.out)
       replace r_t2 := gb_rowIs r_t2 gk n_c
       replace f_b0 := HF_b0.out.below Bw5 (Nat.le_refl _)
       rw [← HCB.out] at o_d
       have f_d := o_d.bs
       clear Bw4 gk o_d o_c)
    | (have hgo := Bw5; clear hgo
       go_at_call 36
       refine (strict_yes _ l0 _ Y _ f_d rfl HL.out HYv.out HY.out).mono ?_
       rintro e w7 ⟨rfl, kk⟩
       replace r_t2 := World.rowIs.of_block r_t2 (kk.block _ (World.rowIs.lt r_t2))
       replace f_b0 := Bs.below f_b0 kk (Nat.le_refl _)
       replace f_d := Bs.below f_d kk (Nat.le_refl _)
       have Bw6 := Bw5.trans (kk.mono (HGS.out _ Bw5))
       clear Bw5 kk)
    | (have hgo := Bw6; clear hgo
       refine wpList_alloc_row rfl 27 rfl 4 (u64f fun _ => 0) zeroE ?_
       intro b_t5 w11 lk r_t5 kk
       have n_t2_t5 : b_t2 ≠ b_t5 := Nat.ne_of_lt (Nat.lt_of_lt_of_le (World.rowIs.lt r_t2) lk)
       have l_t5 := Nat.le_trans (HGS.out _ Bw6) lk
       have a_b0_t5 := Bs.away f_b0 lk
       have a_d_t5 := Bs.away f_d lk
       replace r_t2 := World.rowIs.of_block r_t2 (kk.block _ (World.rowIs.lt r_t2))
       replace f_b0 := Bs.below f_b0 kk (Nat.le_refl _)
       replace f_d := Bs.below f_d kk (Nat.le_refl _)
       have Bw7 := Bw6.trans (kk.mono (HGS.out _ Bw6))
       clear Bw6 kk lk)
    | (have hgo := Bw7; clear hgo
       refine wpList_store_as rfl 27 (.tmp 5) (.tmp 24) rfl 4 (ewF Y) arrE r_t5 rfl rfl (by omega) (fun _ _ => rfl) (fun i hi => putN_whole hi) ?_
       intro w12 q gk
       replace r_t2 := gb_rowIs r_t2 gk n_t2_t5
       replace r_t5 := q
       have Bw8 := Bw7.grown gk (HGS.out _ Bw7) (by intro k hk; cases hk; exact l_t5)
       replace f_b0 := gb_bs f_b0 gk a_b0_t5
       replace f_d := gb_bs f_d gk a_d_t5
       clear Bw7 gk q)
    | (have hgo := Bw8; clear hgo
       refine wpList_load_cat rfl (.tmp 30) rfl (HC31.out _ Bw8) rfl ?_
       have Bw9 := Bw8
       clear Bw8)
    | (have hgo := Bw9; clear hgo
       refine wpList_load_as rfl 27 (.tmp 5) rfl 4 (ewF Y) arrE r_t5 rfl (by omega) (fun i hi => by rw [Nat.zero_add]) ?_
       have Bw10 := Bw9
       clear Bw9)
    | (have hgo := Bw10; clear hgo
       go_at_call 37
       refine (HRT.out _).mono ?_
       rintro e w21 ⟨rfl, kk⟩
       replace r_t2 := World.rowIs.of_block r_t2 (kk.block _ (World.rowIs.lt r_t2))
       replace r_t5 := World.rowIs.of_block r_t5 (kk.block _ (World.rowIs.lt r_t5))
       replace f_b0 := Bs.below f_b0 kk (Nat.le_refl _)
       replace f_d := Bs.below f_d kk (Nat.le_refl _)
       have Bw11 := Bw10.trans (kk.mono (HGS.out _ Bw10))
       clear Bw10 kk)
    | (have hgo := Bw11; clear hgo
       refine wpList_alloc_row rfl 27 rfl 4 (u64f fun _ => 0) zeroE ?_
       intro b_t8 w25 lk r_t8 kk
       have n_t2_t8 : b_t2 ≠ b_t8 := Nat.ne_of_lt (Nat.lt_of_lt_of_le (World.rowIs.lt r_t2) lk)
       have n_t5_t8 : b_t5 ≠ b_t8 := Nat.ne_of_lt (Nat.lt_of_lt_of_le (World.rowIs.lt r_t5) lk)
       have l_t8 := Nat.le_trans (HGS.out _ Bw11) lk
       have a_b0_t8 := Bs.away f_b0 lk
       have a_d_t8 := Bs.away f_d lk
       replace r_t2 := World.rowIs.of_block r_t2 (kk.block _ (World.rowIs.lt r_t2))
       replace r_t5 := World.rowIs.of_block r_t5 (kk.block _ (World.rowIs.lt r_t5))
       replace f_b0 := Bs.below f_b0 kk (Nat.le_refl _)
       replace f_d := Bs.below f_d kk (Nat.le_refl _)
       have Bw12 := Bw11.trans (kk.mono (HGS.out _ Bw11))
       clear Bw11 kk lk)
    | (have hgo := Bw12; clear hgo
       refine wpList_store_as rfl 27 (.tmp 8) (.tmp 37) rfl 4 (ewF x) arrE r_t8 rfl rfl (by omega) (fun _ _ => rfl) (fun i hi => putN_whole hi) ?_
       intro w26 q gk
       replace r_t2 := gb_rowIs r_t2 gk n_t2_t8
       replace r_t5 := gb_rowIs r_t5 gk n_t5_t8
       replace r_t8 := q
       have Bw13 := Bw12.grown gk (HGS.out _ Bw12) (by intro k hk; cases hk; exact l_t8)
       replace f_b0 := gb_bs f_b0 gk a_b0_t8
       replace f_d := gb_bs f_d gk a_d_t8
       clear Bw12 gk q))
  clear f_d f_b0
  go_wp2
  have Bw14 := Bw13.drew
  replace r_t2 := World.rowIs.drew r_t2
  replace r_t5 := World.rowIs.drew r_t5
  replace r_t8 := World.rowIs.drew r_t8
  clear Bw13
  refine wp_region_po (Keep [b_t2]) (Keep.refl _) (fun _ _ _ h1 h2 => h1.trans h2) (.rd 0 (.rd 1 (.rd 3 (.rd 5 .done)))) #[true, true, false, true, false, true, false, false, false, false] [2, 4, 6, 7, 8, 9] [some 52, some 54, some 56, some 57, none, some 3] [[], [0], [1], [1, 2], [0, 1, 2, 3], [0, 1, 2, 3, 4]] [(0, []), (1, []), (2, [1]), (3, []), (4, [0, 2, 3, 2]), (5, []), (6, [4]), (7, [4, 5, 6]), (8, [7, 6, 0, 1, 2, 3, 4, 5, 6, 7]), (9, [8, 0, 1, 2, 3, 4, 5, 6, 7, 8])] 43 (by as_aux_lemma => kernel_rfl) (by as_aux_lemma => kernel_rfl) (by decide) (by as_aux_lemma => kernel_rfl) (by as_aux_lemma => kernel_rfl) (by as_aux_lemma => kernel_rfl) rfl (fun d _ _ _ _ h => by cases d <;> exact h) ?_
  refine lintz_pure 50 (Op.move (Operand.tmp 7)) 4 (.bool false) rfl rfl rfl rfl rfl (fun w0 hb => by unfold mkOp; go_simp; all_goals (with_reducible rfl)) ?_
  simp only [Act.put, List.setIfInBounds_toArray, List.set_cons_zero, List.set_cons_succ]
  refine lintz_pure 51 (Op.load 27 (Operand.tmp 8)) 27 (.agg (arrOf 4 (ewF x))) rfl rfl rfl rfl rfl (fun w0 hb => by exact exec_load_as _ _ _ _ (ewF x) rfl arrE (Keep.row hb r_t8 (cont1 (Ne.symm n_t2_t8))) (by omega) (fun i hi => by rw [Nat.zero_add])) ?_
  simp only [Act.put, List.setIfInBounds_toArray, List.set_cons_zero, List.set_cons_succ]
  refine lintz_pure 53 (Op.load 27 (Operand.tmp 8)) 27 (.agg (arrOf 4 (ewF x))) rfl rfl rfl rfl rfl (fun w0 hb => by exact exec_load_as _ _ _ _ (ewF x) rfl arrE (Keep.row hb r_t8 (cont1 (Ne.symm n_t2_t8))) (by omega) (fun i hi => by rw [Nat.zero_add])) ?_
  simp only [Act.put, List.setIfInBounds_toArray, List.set_cons_zero, List.set_cons_succ]
  refine lintz_pure 55 (Op.load 27 (Operand.tmp 5)) 27 (.agg (arrOf 4 (ewF Y))) rfl rfl rfl rfl rfl (fun w0 hb => by exact exec_load_as _ _ _ _ (ewF Y) rfl arrE (Keep.row hb r_t5 (cont1 (Ne.symm n_t2_t5))) (by omega) (fun i hi => by rw [Nat.zero_add])) ?_
  simp only [Act.put, List.setIfInBounds_toArray, List.set_cons_zero, List.set_cons_succ]
  refine lintz_leaf ?_
  have HWF : poWf [.val (.agg (arrOf 4 (ewF (oppP x)))), .val (.agg (arrOf 4 (ewF x))), .val (.agg (arrOf 4 (ewF 1))), .val (.agg (arrOf 12 (qF x Y 1))), .nil, .val ((.int .i64 0))] [⟨b_t2, 29, 12, (u64f fun _ => 0), 4, (qF x Y 1)⟩] = true := by as_aux_lemma => kernel_rfl
  refine ⟨JG [.val (.agg (arrOf 4 (ewF (oppP x)))), .val (.agg (arrOf 4 (ewF x))), .val (.agg (arrOf 4 (ewF 1))), .val (.agg (arrOf 12 (qF x Y 1))), .nil, .val ((.int .i64 0))] [⟨b_t2, 29, 12, (u64f fun _ => 0), 4, (qF x Y 1)⟩] _, JG.start (Nat.le_refl _) (fun i hi => by obtain rfl : i = 0 := by { have h9 : i < 1 := hi; omega }; exact r_t2), fun m gz wa p az hp hm hmp hcl hdn hE hJ hS hO => ?_, fun gz wa hE hJ => ?_⟩
  · rcases (show p = 0 ∨ p = 1 ∨ p = 2 ∨ p = 3 ∨ p = 4 ∨ p = 5 by have h9 : p < 6 := hp; omega) with rfl | rfl | rfl | rfl | rfl | rfl
    · have e51 : az.eval (.tmp 51) = .agg (arrOf 4 (ewF x)) := hO 51 rfl
      exact po_call 52 40 #[Operand.tmp 51] #[27] _ HWF hJ rfl hE (neg_any x _ Hx.out) rfl rfl rfl rfl rfl Try.func40 (by kernel_rfl) (by kernel_rfl) (by simp only [List.map_toArray, List.map_cons, List.map_nil, eval_const, eval_func, e51] <;> rfl)
    · have e50 : az.eval (.tmp 50) = .bool false := hO 50 rfl
      have e52 := (hS 0 52 rfl (hdn 0 (by decide)) (Nat.le_of_ble_eq_true rfl)).trans (hJ.says (hdn 0 (by decide)) rfl)
      have e53 : az.eval (.tmp 53) = .agg (arrOf 4 (ewF x)) := hO 53 rfl
      exact po_call 54 39 #[Operand.tmp 50, Operand.tmp 52, Operand.tmp 53] #[4, 27, 27] _ HWF hJ rfl hE (pick_to false (oppP x) x _) rfl rfl rfl rfl rfl Try.func39 (by kernel_rfl) (by kernel_rfl) (by simp only [List.map_toArray, List.map_cons, List.map_nil, eval_const, eval_func, e50, e52, e53] <;> rfl)
    · exact po_call 56 41 #[Operand.const (Value.int IntKind.u64 1)] #[24] _ HWF hJ rfl hE (small_any 1 _ (by decide)) rfl rfl rfl rfl rfl Try.func41 (by kernel_rfl) (by kernel_rfl) (by simp only [List.map_toArray, List.map_cons, List.map_nil, eval_const, eval_func] <;> rfl)
    · have e54 := (hS 1 54 rfl (hdn 1 (by decide)) (Nat.le_of_ble_eq_true rfl)).trans (hJ.says (hdn 1 (by decide)) rfl)
      have e55 : az.eval (.tmp 55) = .agg (arrOf 4 (ewF Y)) := hO 55 rfl
      have e56 := (hS 2 56 rfl (hdn 2 (by decide)) (Nat.le_of_ble_eq_true rfl)).trans (hJ.says (hdn 2 (by decide)) rfl)
      exact po_run 57 (Op.build 29 #[(0, Operand.tmp 54), (1, Operand.tmp 55), (2, Operand.tmp 56)]) _ HWF hJ rfl hE rfl rfl rfl rfl rfl rfl (exec_build_as _ _ _ (by simp only [List.map_toArray, List.map_cons, List.map_nil, e54, e55, e56]; exact builtQ _ _ _))
    · have e57 := (hS 3 57 rfl (hdn 3 (by decide)) (Nat.le_of_ble_eq_true rfl)).trans (hJ.says (hdn 3 (by decide)) rfl)
      exact po_storeOld 0 (.tmp 2) (.tmp 57) 29 b_t2 12 _ (by rw [hm]; exact hp) hmp hJ rfl (show 0 < 1 by decide) rfl rfl rfl rfl rfl (World.rowIs.lt r_t2) (by simp) (by kernel_rfl) po_ne1 hE rfl rfl rfl rfl rfl (hO 2 rfl) e57 arrQ (fun j _ => qF_one _ _ _ j)
    · exact po_run 3 (Op.assign (Operand.const (Value.int IntKind.i64 0))) _ HWF hJ rfl hE rfl rfl rfl rfl rfl rfl (by first | (simp only [execOp, mkOp, eval_const]; done) | (simp only [execOp, mkOp, eval_const]; go_simp))
  · have q0 := hJ.told 0 (by decide) rfl
    have q1 := hJ.told 1 (by decide) rfl
    have q2 := hJ.told 2 (by decide) rfl
    have q3 := hJ.told 3 (by decide) rfl
    have q5 := hJ.told 5 (by decide) rfl
    rw [putO_true _ _ _ _ _ rfl]
    simp only [putA, Nat.zero_add, Nat.reduceAdd]
    rw [q0, q1, q2, q3, q5]
    simp only [Act.put, List.setIfInBounds_toArray, List.set_cons_zero, List.set_cons_succ]
    refine po_end ?_
    replace r_t2 : wa.rowIs b_t2 29 12 (qF x Y 1) := hJ.old 0 (show 0 < 1 by decide) (show 4 < 6 by decide)
    replace r_t5 := Keep.row hE r_t5 (cont1 (Ne.symm n_t2_t5))
    replace r_t8 := Keep.row hE r_t8 (cont1 (Ne.symm n_t2_t8))
    have Bw15 := hE.below Bw14 (HGS.out _ Bw14) (keep_all1 l_t2)
    clear Bw14 hE hJ HWF q0 q1 q2 q3 q5
    go_wp2
    exact ret_cell_as_tmp _ rfl arrQ r_t2 rfl rfl (by omega) (fun _ _ => rfl) rfl ⟨by rw [HYv.out]; rfl, Bw15⟩
set_option maxHeartbeats 4000000 in
set_option maxRecDepth 10000 in
theorem qDecode_6 (v0 : Value) (l0 : List UInt8) (w : World) (h0 : Bs w v0 l0) (hl : l0.length = 32) (hY : numL l0 32 % top < p25) (x : Nat) (hx : decX (numL l0 32 % top) = some x) (ho : numL l0 32 / top = 1) (hx0 : x ≠ 0) : Calls Try.prog 10 #[v0] w fun e w' => e = .returned (.tuple #[.agg (arrOf 12 (qF (oppP x) (numL l0 32 % top) 1)), .int .i64 0]) ∧ Below w.heap.size w w' := by
  have HYL := Lib.hid hY
  obtain ⟨gb, off, c0, rfl, y0, z0, hgb, hcells⟩ := h0.open_n hl (by decide)
  have HL := Lib.hid hl
  have HF0 := Lib.hid h0
  have f_b0 := h0
  obtain ⟨q, hq⟩ := nat_var ((l0.getD 31 0).toNat)
  have hql : q < 256 := by rw [hq]; exact UInt8.toNat_lt _
  have a1 := notand128 q hql
  obtain ⟨u, hu⟩ := nat_var (q % 128)
  rw [← hu] at a1
  have HUL : Hid (u < 256) := Lib.hid (by omega)
  have HQL := Lib.hid hql
  have HSG : Hid (numL l0 32 / top = q / 128) := Lib.hid (by rw [(numL_cut l0 hl).2, ← hq])
  have HCB : Hid (cutB l0 = l0.set 31 (UInt8.ofNat u)) := Lib.hid (by rw [hu, hq]; rfl)
  have HQ : Hid (∀ h : 31 < l0.length, (l0[31]'h).toNat = q) := Lib.hid fun h => by rw [hq, List.getD_eq_getElem?_getD, List.getElem?_eq_getElem h]; rfl
  have HC31 : Hid (∀ W, Below w.heap.size w W → W.cell? ⟨gb, off + 31, none⟩ = some (.int .u8 (q : Int))) := Lib.hid fun W hW => (bs_cell (h0.below hW (Nat.le_refl _)) 31 (by rw [hl]; decide)).trans (by rw [HQ.out])
  obtain ⟨Y, hYv⟩ := nat_var (numL l0 32 % top)
  have HYv : Hid (numL l0 32 % top = Y) := Lib.hid hYv.symm
  have HY : Hid (Y < p25) := Lib.hid (by rw [hYv]; exact HYL.out)
  rw [← hYv] at hx
  have HRT := Lib.hid fun w => bes_some Y x w HY.out hx
  have Hx : Hid (x < p25) := Lib.hid (decX_some HY.out hx).1.1
  have a2 : bits .and .u8 (q : Int) 128 = 128 := by have h := and128 q hql; rw [← HSG.out, ho] at h; exact h
  have HX0 := Lib.hid (decide_eq_false hx0)
  clear hx0
  clear ho
  clear hx hYv
  clear hq hql hu hcells h0 hl hY
  have Bw0 := Below.refl w.heap.size w
  have HGS : Hid (∀ wq : World, Below w.heap.size w wq → w.heap.size ≤ wq.heap.size) := Lib.hid fun wq h => h.size
  have HF_b0 := HF0
  go_enter Try.func10, Try.ntmps10
  go_wp2_with (first
    | (have hgo := Bw0; clear hgo
       refine wpList_alloc_row rfl 29 rfl 12 (u64f fun _ => 0) zeroQ ?_
       intro b_t2 w1 lk r_t2 kk
       have l_t2 := Nat.le_trans (HGS.out _ Bw0) lk
       have a_b0_t2 := Bs.away f_b0 lk
       replace f_b0 := Bs.below f_b0 kk (Nat.le_refl _)
       have Bw1 := Bw0.trans (kk.mono (HGS.out _ Bw0))
       clear Bw0 kk lk)
    | (have hgo := Bw1; clear hgo
       refine wpList_rows1 rfl (.tmp 13) rfl f_b0 rfl ?_
       intro v_r14 w3 F_r14 kk
       replace r_t2 := World.rowIs.of_block r_t2 (kk.block _ (World.rowIs.lt r_t2))
       replace f_b0 := Bs.below f_b0 kk (Nat.le_refl _)
       have Bw2 := Bw1.trans (kk.mono (HGS.out _ Bw1))
       clear Bw1 kk)
    | (have hgo := Bw2; clear hgo
       go_at_call 35
       refine (cat_any _ _ _ F_r14 (by rw [List.flatten_singleton, HL.out]; decide)).mono ?_
       rintro e w4 ⟨v_c, rfl, o_c, kk⟩
       rw [List.flatten_singleton] at o_c
       clear F_r14
       obtain ⟨g, cap, hv, hg, hgs, _, _⟩ := o_c.open_cons (by rw [HL.out]; decide)
       rw [HL.out] at hv
       subst hv
       have n_c : b_t2 ≠ g := Nat.ne_of_lt (Nat.lt_of_lt_of_le (World.rowIs.lt r_t2) hg)
       have HCAP : Hid (32 ≤ cap) := Lib.hid (owns_cap o_c)
       have HGB : Hid (w.heap.size ≤ g) := Lib.hid (Nat.le_trans (HGS.out _ Bw2) hg)
       replace o_c := o_c.lower (HGS.out _ Bw2)
       clear hg hgs
       replace r_t2 := World.rowIs.of_block r_t2 (kk.block _ (World.rowIs.lt r_t2))
       replace f_b0 := Bs.below f_b0 kk (Nat.le_refl _)
       have Bw3 := Bw2.trans (kk.mono (HGS.out _ Bw2))
       clear Bw2 kk)
    | (have hgo := Bw3; clear hgo
       refine wpList_load_byte rfl (.tmp 17) rfl 31 q o_c HL.out.symm (by rw [HL.out]; decide) rfl (HQ.out _) ?_
       have Bw4 := Bw3
       clear Bw3)
    | (have hgo := Bw4; clear hgo
       refine wpList_store_byte rfl (.tmp 20) (.tmp 19) rfl 31 u o_c HL.out.symm HCAP.out (by rw [HL.out]; decide) rfl rfl HUL.out ?_
       intro w5 o_d gk
       have Bw5 := Bw4.grown gk (HGS.out _ Bw4) (by intro k hk; cases hk; exact HGB.out)
       replace r_t2 := gb_rowIs r_t2 gk n_c
       replace f_b0 := HF_b0.out.below Bw5 (Nat.le_refl _)
       rw [← HCB.out] at o_d
       have f_d := o_d.bs
       clear Bw4 gk o_d o_c)
    | (have hgo := Bw5; clear hgo
       go_at_call 36
       refine (strict_yes _ l0 _ Y _ f_d rfl HL.out HYv.out HY.out).mono ?_
       rintro e w7 ⟨rfl, kk⟩
       replace r_t2 := World.rowIs.of_block r_t2 (kk.block _ (World.rowIs.lt r_t2))
       replace f_b0 := Bs.below f_b0 kk (Nat.le_refl _)
       replace f_d := Bs.below f_d kk (Nat.le_refl _)
       have Bw6 := Bw5.trans (kk.mono (HGS.out _ Bw5))
       clear Bw5 kk)
    | (have hgo := Bw6; clear hgo
       refine wpList_alloc_row rfl 27 rfl 4 (u64f fun _ => 0) zeroE ?_
       intro b_t5 w11 lk r_t5 kk
       have n_t2_t5 : b_t2 ≠ b_t5 := Nat.ne_of_lt (Nat.lt_of_lt_of_le (World.rowIs.lt r_t2) lk)
       have l_t5 := Nat.le_trans (HGS.out _ Bw6) lk
       have a_b0_t5 := Bs.away f_b0 lk
       have a_d_t5 := Bs.away f_d lk
       replace r_t2 := World.rowIs.of_block r_t2 (kk.block _ (World.rowIs.lt r_t2))
       replace f_b0 := Bs.below f_b0 kk (Nat.le_refl _)
       replace f_d := Bs.below f_d kk (Nat.le_refl _)
       have Bw7 := Bw6.trans (kk.mono (HGS.out _ Bw6))
       clear Bw6 kk lk)
    | (have hgo := Bw7; clear hgo
       refine wpList_store_as rfl 27 (.tmp 5) (.tmp 24) rfl 4 (ewF Y) arrE r_t5 rfl rfl (by omega) (fun _ _ => rfl) (fun i hi => putN_whole hi) ?_
       intro w12 q gk
       replace r_t2 := gb_rowIs r_t2 gk n_t2_t5
       replace r_t5 := q
       have Bw8 := Bw7.grown gk (HGS.out _ Bw7) (by intro k hk; cases hk; exact l_t5)
       replace f_b0 := gb_bs f_b0 gk a_b0_t5
       replace f_d := gb_bs f_d gk a_d_t5
       clear Bw7 gk q)
    | (have hgo := Bw8; clear hgo
       refine wpList_load_cat rfl (.tmp 30) rfl (HC31.out _ Bw8) rfl ?_
       have Bw9 := Bw8
       clear Bw8)
    | (have hgo := Bw9; clear hgo
       refine wpList_load_as rfl 27 (.tmp 5) rfl 4 (ewF Y) arrE r_t5 rfl (by omega) (fun i hi => by rw [Nat.zero_add]) ?_
       have Bw10 := Bw9
       clear Bw9)
    | (have hgo := Bw10; clear hgo
       go_at_call 37
       refine (HRT.out _).mono ?_
       rintro e w21 ⟨rfl, kk⟩
       replace r_t2 := World.rowIs.of_block r_t2 (kk.block _ (World.rowIs.lt r_t2))
       replace r_t5 := World.rowIs.of_block r_t5 (kk.block _ (World.rowIs.lt r_t5))
       replace f_b0 := Bs.below f_b0 kk (Nat.le_refl _)
       replace f_d := Bs.below f_d kk (Nat.le_refl _)
       have Bw11 := Bw10.trans (kk.mono (HGS.out _ Bw10))
       clear Bw10 kk)
    | (have hgo := Bw11; clear hgo
       refine wpList_alloc_row rfl 27 rfl 4 (u64f fun _ => 0) zeroE ?_
       intro b_t8 w25 lk r_t8 kk
       have n_t2_t8 : b_t2 ≠ b_t8 := Nat.ne_of_lt (Nat.lt_of_lt_of_le (World.rowIs.lt r_t2) lk)
       have n_t5_t8 : b_t5 ≠ b_t8 := Nat.ne_of_lt (Nat.lt_of_lt_of_le (World.rowIs.lt r_t5) lk)
       have l_t8 := Nat.le_trans (HGS.out _ Bw11) lk
       have a_b0_t8 := Bs.away f_b0 lk
       have a_d_t8 := Bs.away f_d lk
       replace r_t2 := World.rowIs.of_block r_t2 (kk.block _ (World.rowIs.lt r_t2))
       replace r_t5 := World.rowIs.of_block r_t5 (kk.block _ (World.rowIs.lt r_t5))
       replace f_b0 := Bs.below f_b0 kk (Nat.le_refl _)
       replace f_d := Bs.below f_d kk (Nat.le_refl _)
       have Bw12 := Bw11.trans (kk.mono (HGS.out _ Bw11))
       clear Bw11 kk lk)
    | (have hgo := Bw12; clear hgo
       refine wpList_store_as rfl 27 (.tmp 8) (.tmp 37) rfl 4 (ewF x) arrE r_t8 rfl rfl (by omega) (fun _ _ => rfl) (fun i hi => putN_whole hi) ?_
       intro w26 q gk
       replace r_t2 := gb_rowIs r_t2 gk n_t2_t8
       replace r_t5 := gb_rowIs r_t5 gk n_t5_t8
       replace r_t8 := q
       have Bw13 := Bw12.grown gk (HGS.out _ Bw12) (by intro k hk; cases hk; exact l_t8)
       replace f_b0 := gb_bs f_b0 gk a_b0_t8
       replace f_d := gb_bs f_d gk a_d_t8
       clear Bw12 gk q)
    | (have hgo := Bw13; clear hgo
       refine wpList_load_asg rfl 27 (.tmp 8) rfl 4 (ewF x) arrE r_t8 rfl (by omega) (fun i hi => by rw [Nat.zero_add]) ?_
       have Bw14 := Bw13
       clear Bw13)
    | (have hgo := Bw14; clear hgo
       refine wpList_value_given rfl (.agg (arrOf 4 (ewF 0))) (by rw [exec_mkOp]; exact exec_zeroE _ _) ?_
       have Bw15 := Bw14
       clear Bw14)
    | (have hgo := Bw15; clear hgo
       go_at_call 38
       refine (sameB_any x 0 false _ Hx.out p25_pos HX0.out).mono ?_
       rintro e w35 ⟨rfl, kk⟩
       replace r_t2 := World.rowIs.of_block r_t2 (kk.block _ (World.rowIs.lt r_t2))
       replace r_t5 := World.rowIs.of_block r_t5 (kk.block _ (World.rowIs.lt r_t5))
       replace r_t8 := World.rowIs.of_block r_t8 (kk.block _ (World.rowIs.lt r_t8))
       replace f_b0 := Bs.below f_b0 kk (Nat.le_refl _)
       replace f_d := Bs.below f_d kk (Nat.le_refl _)
       have Bw16 := Bw15.trans (kk.mono (HGS.out _ Bw15))
       clear Bw15 kk))
  clear f_d f_b0
  go_wp2
  have Bw17 := Bw16.drew
  replace r_t2 := World.rowIs.drew r_t2
  replace r_t5 := World.rowIs.drew r_t5
  replace r_t8 := World.rowIs.drew r_t8
  clear Bw16
  refine wp_region_po (Keep [b_t2]) (Keep.refl _) (fun _ _ _ h1 h2 => h1.trans h2) (.rd 0 (.rd 1 (.rd 3 (.rd 5 .done)))) #[true, true, false, true, false, true, false, false, false, false] [2, 4, 6, 7, 8, 9] [some 52, some 54, some 56, some 57, none, some 3] [[], [0], [1], [1, 2], [0, 1, 2, 3], [0, 1, 2, 3, 4]] [(0, []), (1, []), (2, [1]), (3, []), (4, [0, 2, 3, 2]), (5, []), (6, [4]), (7, [4, 5, 6]), (8, [7, 6, 0, 1, 2, 3, 4, 5, 6, 7]), (9, [8, 0, 1, 2, 3, 4, 5, 6, 7, 8])] 43 (by as_aux_lemma => kernel_rfl) (by as_aux_lemma => kernel_rfl) (by decide) (by as_aux_lemma => kernel_rfl) (by as_aux_lemma => kernel_rfl) (by as_aux_lemma => kernel_rfl) rfl (fun d _ _ _ _ h => by cases d <;> exact h) ?_
  refine lintz_pure 50 (Op.move (Operand.tmp 7)) 4 (.bool true) rfl rfl rfl rfl rfl (fun w0 hb => by unfold mkOp; go_simp; all_goals (with_reducible rfl)) ?_
  simp only [Act.put, List.setIfInBounds_toArray, List.set_cons_zero, List.set_cons_succ]
  refine lintz_pure 51 (Op.load 27 (Operand.tmp 8)) 27 (.agg (arrOf 4 (ewF x))) rfl rfl rfl rfl rfl (fun w0 hb => by exact exec_load_as _ _ _ _ (ewF x) rfl arrE (Keep.row hb r_t8 (cont1 (Ne.symm n_t2_t8))) (by omega) (fun i hi => by rw [Nat.zero_add])) ?_
  simp only [Act.put, List.setIfInBounds_toArray, List.set_cons_zero, List.set_cons_succ]
  refine lintz_pure 53 (Op.load 27 (Operand.tmp 8)) 27 (.agg (arrOf 4 (ewF x))) rfl rfl rfl rfl rfl (fun w0 hb => by exact exec_load_as _ _ _ _ (ewF x) rfl arrE (Keep.row hb r_t8 (cont1 (Ne.symm n_t2_t8))) (by omega) (fun i hi => by rw [Nat.zero_add])) ?_
  simp only [Act.put, List.setIfInBounds_toArray, List.set_cons_zero, List.set_cons_succ]
  refine lintz_pure 55 (Op.load 27 (Operand.tmp 5)) 27 (.agg (arrOf 4 (ewF Y))) rfl rfl rfl rfl rfl (fun w0 hb => by exact exec_load_as _ _ _ _ (ewF Y) rfl arrE (Keep.row hb r_t5 (cont1 (Ne.symm n_t2_t5))) (by omega) (fun i hi => by rw [Nat.zero_add])) ?_
  simp only [Act.put, List.setIfInBounds_toArray, List.set_cons_zero, List.set_cons_succ]
  refine lintz_leaf ?_
  have HWF : poWf [.val (.agg (arrOf 4 (ewF (oppP x)))), .val (.agg (arrOf 4 (ewF (oppP x)))), .val (.agg (arrOf 4 (ewF 1))), .val (.agg (arrOf 12 (qF (oppP x) Y 1))), .nil, .val ((.int .i64 0))] [⟨b_t2, 29, 12, (u64f fun _ => 0), 4, (qF (oppP x) Y 1)⟩] = true := by as_aux_lemma => kernel_rfl
  refine ⟨JG [.val (.agg (arrOf 4 (ewF (oppP x)))), .val (.agg (arrOf 4 (ewF (oppP x)))), .val (.agg (arrOf 4 (ewF 1))), .val (.agg (arrOf 12 (qF (oppP x) Y 1))), .nil, .val ((.int .i64 0))] [⟨b_t2, 29, 12, (u64f fun _ => 0), 4, (qF (oppP x) Y 1)⟩] _, JG.start (Nat.le_refl _) (fun i hi => by obtain rfl : i = 0 := by { have h9 : i < 1 := hi; omega }; exact r_t2), fun m gz wa p az hp hm hmp hcl hdn hE hJ hS hO => ?_, fun gz wa hE hJ => ?_⟩
  · rcases (show p = 0 ∨ p = 1 ∨ p = 2 ∨ p = 3 ∨ p = 4 ∨ p = 5 by have h9 : p < 6 := hp; omega) with rfl | rfl | rfl | rfl | rfl | rfl
    · have e51 : az.eval (.tmp 51) = .agg (arrOf 4 (ewF x)) := hO 51 rfl
      exact po_call 52 40 #[Operand.tmp 51] #[27] _ HWF hJ rfl hE (neg_any x _ Hx.out) rfl rfl rfl rfl rfl Try.func40 (by kernel_rfl) (by kernel_rfl) (by simp only [List.map_toArray, List.map_cons, List.map_nil, eval_const, eval_func, e51] <;> rfl)
    · have e50 : az.eval (.tmp 50) = .bool true := hO 50 rfl
      have e52 := (hS 0 52 rfl (hdn 0 (by decide)) (Nat.le_of_ble_eq_true rfl)).trans (hJ.says (hdn 0 (by decide)) rfl)
      have e53 : az.eval (.tmp 53) = .agg (arrOf 4 (ewF x)) := hO 53 rfl
      exact po_call 54 39 #[Operand.tmp 50, Operand.tmp 52, Operand.tmp 53] #[4, 27, 27] _ HWF hJ rfl hE (pick_to true (oppP x) x _) rfl rfl rfl rfl rfl Try.func39 (by kernel_rfl) (by kernel_rfl) (by simp only [List.map_toArray, List.map_cons, List.map_nil, eval_const, eval_func, e50, e52, e53] <;> rfl)
    · exact po_call 56 41 #[Operand.const (Value.int IntKind.u64 1)] #[24] _ HWF hJ rfl hE (small_any 1 _ (by decide)) rfl rfl rfl rfl rfl Try.func41 (by kernel_rfl) (by kernel_rfl) (by simp only [List.map_toArray, List.map_cons, List.map_nil, eval_const, eval_func] <;> rfl)
    · have e54 := (hS 1 54 rfl (hdn 1 (by decide)) (Nat.le_of_ble_eq_true rfl)).trans (hJ.says (hdn 1 (by decide)) rfl)
      have e55 : az.eval (.tmp 55) = .agg (arrOf 4 (ewF Y)) := hO 55 rfl
      have e56 := (hS 2 56 rfl (hdn 2 (by decide)) (Nat.le_of_ble_eq_true rfl)).trans (hJ.says (hdn 2 (by decide)) rfl)
      exact po_run 57 (Op.build 29 #[(0, Operand.tmp 54), (1, Operand.tmp 55), (2, Operand.tmp 56)]) _ HWF hJ rfl hE rfl rfl rfl rfl rfl rfl (exec_build_as _ _ _ (by simp only [List.map_toArray, List.map_cons, List.map_nil, e54, e55, e56]; exact builtQ _ _ _))
    · have e57 := (hS 3 57 rfl (hdn 3 (by decide)) (Nat.le_of_ble_eq_true rfl)).trans (hJ.says (hdn 3 (by decide)) rfl)
      exact po_storeOld 0 (.tmp 2) (.tmp 57) 29 b_t2 12 _ (by rw [hm]; exact hp) hmp hJ rfl (show 0 < 1 by decide) rfl rfl rfl rfl rfl (World.rowIs.lt r_t2) (by simp) (by kernel_rfl) po_ne1 hE rfl rfl rfl rfl rfl (hO 2 rfl) e57 arrQ (fun j _ => qF_one _ _ _ j)
    · exact po_run 3 (Op.assign (Operand.const (Value.int IntKind.i64 0))) _ HWF hJ rfl hE rfl rfl rfl rfl rfl rfl (by first | (simp only [execOp, mkOp, eval_const]; done) | (simp only [execOp, mkOp, eval_const]; go_simp))
  · have q0 := hJ.told 0 (by decide) rfl
    have q1 := hJ.told 1 (by decide) rfl
    have q2 := hJ.told 2 (by decide) rfl
    have q3 := hJ.told 3 (by decide) rfl
    have q5 := hJ.told 5 (by decide) rfl
    rw [putO_true _ _ _ _ _ rfl]
    simp only [putA, Nat.zero_add, Nat.reduceAdd]
    rw [q0, q1, q2, q3, q5]
    simp only [Act.put, List.setIfInBounds_toArray, List.set_cons_zero, List.set_cons_succ]
    refine po_end ?_
    replace r_t2 : wa.rowIs b_t2 29 12 (qF (oppP x) Y 1) := hJ.old 0 (show 0 < 1 by decide) (show 4 < 6 by decide)
    replace r_t5 := Keep.row hE r_t5 (cont1 (Ne.symm n_t2_t5))
    replace r_t8 := Keep.row hE r_t8 (cont1 (Ne.symm n_t2_t8))
    have Bw18 := hE.below Bw17 (HGS.out _ Bw17) (keep_all1 l_t2)
    clear Bw17 hE hJ HWF q0 q1 q2 q3 q5
    go_wp2
    exact ret_cell_as_tmp _ rfl arrQ r_t2 rfl rfl (by omega) (fun _ _ => rfl) rfl ⟨by rw [HYv.out]; rfl, Bw18⟩
theorem qTDecode_any (v : Value) (l : List UInt8) (w : World) (h : Bs w v l) : Calls Try.prog 10 #[v] w fun e w' => e = .returned (.tuple #[.agg (arrOf 12 (qT (eT l))), .int .i64 (decE l)]) ∧ Below w.heap.size w w' := by
  by_cases hl : l.length = 32
  · by_cases hY : numL l 32 % top < p25
    · cases hx : decX (numL l 32 % top) with
      | none =>
        have e : decN l = none := by unfold decN; rw [if_pos ⟨hl, hY⟩, hx]; rfl
        unfold eT decE
        rw [e]
        exact qDecode_3 v l w h hl hY hx
      | some x =>
        have hs : numL l 32 / top < 2 := by
          rw [(numL_cut l hl).2]
          exact Nat.div_lt_of_lt_mul (UInt8.toNat_lt _)
        by_cases ho : numL l 32 / top = 1
        · by_cases hx0 : x = 0
          · have e : decN l = none := by unfold decN; rw [if_pos ⟨hl, hY⟩, hx, Option.bind_some, if_pos ⟨ho, hx0⟩]
            unfold eT decE
            rw [e]
            exact qDecode_4 v l w h hl hY x hx ho hx0
          · have e : decN l = some (oppP x, numL l 32 % top) := by unfold decN; rw [if_pos ⟨hl, hY⟩, hx, Option.bind_some, if_neg (fun k => hx0 k.2), if_pos ho]
            unfold eT decE
            rw [e]
            exact qDecode_6 v l w h hl hY x hx ho hx0
        · have ho0 : numL l 32 / top = 0 := (show ∀ s : Nat, s < 2 → s ≠ 1 → s = 0 by omega) _ hs ho
          have e : decN l = some (x, numL l 32 % top) := by unfold decN; rw [if_pos ⟨hl, hY⟩, hx, Option.bind_some, if_neg (fun k => ho k.1), if_neg ho]
          unfold eT decE
          rw [e]
          exact qDecode_5 v l w h hl hY x hx ho0
    · have e : decN l = none := by unfold decN; rw [if_neg (fun k => hY k.2)]
      unfold eT decE
      rw [e]
      exact qDecode_2 v l w h hl hY
  · have e : decN l = none := by unfold decN; rw [if_neg (fun k => hl k.1)]
    unfold eT decE
    rw [e]
    exact qDecode_1 v l w h hl
theorem qTEncode_any (t : Nat × Nat × Nat) (w : World) (h : LtT t) : Calls Try.prog 13 #[.agg (arrOf 12 (qT t))] w fun e w' => ∃ v, e = .returned v ∧ Owns w' w.heap.size v (litB (encQ t) 32) ∧ Below w.heap.size w w' := qEncode_any t.1 t.2.1 t.2.2 w h.1 h.2.1 h.2.2
end Go.Proofs.Ytphkmaihnbhgoaa

/- What the laws of chapter 7 share: is, awake. -/
namespace Go.Proofs.Ytphkmaihnbhgoaa
open Go.RowKit Go.Deep
set_option linter.unusedSimpArgs false
set_option linter.unusedVariables false

theorem one_L : 1 < ordL := by decide +kernel
theorem same_to (A C : Nat) (w : World) (hA : A < ordL) (hC : C < ordL) {b : Bool} (h : decide (A = C) = b) : Calls Try.prog 31 #[.agg (arrOf 4 (ewF A)), .agg (arrOf 4 (ewF C))] w fun e w' => e = .returned (.bool b) ∧ Below w.heap.size w w' := by
  rw [← h]
  exact sSame_any A C w hA hC
theorem sWide_to (v : Value) (l : List UInt8) (w : World) (hv : Bs w v l) (V : Nat) (h : numL l 64 % ordL = V) : Calls Try.prog 18 #[v] w fun e w' => e = .returned (.agg (arrOf 4 (ewF V))) ∧ Below w.heap.size w w' := by
  rw [← h]
  exact sWide_any v l w hv
theorem one_wide : numL [1] 64 % ordL = 1 := by decide +kernel
theorem nil_wide : numL [] 64 % ordL = 0 := by decide +kernel
end Go.Proofs.Ytphkmaihnbhgoaa

/- What the laws of chapter 8 share: is, awake. -/
namespace Go.Proofs.Ytphkmaihnbhgoaa
open Go.RowKit Go.Deep
set_option linter.unusedSimpArgs false
set_option linter.unusedVariables false

theorem small_to (t : Nat × Nat × Nat) (b : Bool) (w : World) (h : LtT t) (hb : qSmall t = b) : Calls Try.prog 14 #[.agg (arrOf 12 (qT t))] w fun e w' => e = .returned (.bool b) ∧ Below w.heap.size w w' := by
  have g := qTSmall_any t w h
  rwa [hb] at g
theorem small_zero : qSmall (0, 0, 0) = true := by
  rw [RQ.none.small, mulE_zero]
  exact decide_eq_true rfl
theorem encQ_base : encQ bT = ptB.2 := by rw [RQ.base.enc, base_enc]
theorem dec_nil (w : World) : Calls Try.prog 10 #[.slice none 0 0] w fun e w' => e = .returned (.tuple #[.agg (arrOf 12 (qT (0, 0, 0))), .int .i64 12]) ∧ Below w.heap.size w w' := by
  have g := qTDecode_any (.slice none 0 0) [] w (Bs.nil w)
  have e : decN [] = none := by
    unfold decN
    rw [if_neg]
    rintro ⟨h, _⟩
    cases h
  unfold eT decE at g
  rw [e] at g
  exact g
theorem base_bytes : ((litB ptB.2 32).getD 0 0).toNat = 88 ∧ ((litB ptB.2 32).getD 1 0).toNat = 102 ∧ ((litB ptB.2 32).getD 31 0).toNat = 102 := by decide +kernel
theorem pTimes_c0 (a : Nat × Nat × Nat) (w : World) (Ha : LtT a) : Calls Try.prog 28 #[.agg (arrOf 12 (qT a)), .int .i64 0] w fun e w' => e = .returned (.agg (arrOf 12 (qT (qTim a 0)))) ∧ Below w.heap.size w w' := pTimes_in a 0 w Ha (by decide)
theorem pTimes_c1 (a : Nat × Nat × Nat) (w : World) (Ha : LtT a) : Calls Try.prog 28 #[.agg (arrOf 12 (qT a)), .int .i64 1] w fun e w' => e = .returned (.agg (arrOf 12 (qT (qTim a 1)))) ∧ Below w.heap.size w w' := pTimes_in a 1 w Ha (by decide)
theorem pTimes_c2 (a : Nat × Nat × Nat) (w : World) (Ha : LtT a) : Calls Try.prog 28 #[.agg (arrOf 12 (qT a)), .int .i64 2] w fun e w' => e = .returned (.agg (arrOf 12 (qT (qTim a 2)))) ∧ Below w.heap.size w w' := pTimes_in a 2 w Ha (by decide)
theorem pTimes_c3 (a : Nat × Nat × Nat) (w : World) (Ha : LtT a) : Calls Try.prog 28 #[.agg (arrOf 12 (qT a)), .int .i64 3] w fun e w' => e = .returned (.agg (arrOf 12 (qT (qTim a 3)))) ∧ Below w.heap.size w w' := pTimes_in a 3 w Ha (by decide)
theorem pTimes_m (a : Nat × Nat × Nat) (w : World) (Ha : LtT a) : Calls Try.prog 28 #[.agg (arrOf 12 (qT a)), .int .i64 (-1)] w fun e w' => e = .returned (.agg (arrOf 12 (qT (0, 0, 0)))) ∧ Below w.heap.size w w' := pTimes_less a w Ha (-1) (by decide)
set_option maxHeartbeats 4000000 in
set_option maxRecDepth 10000 in
theorem is8_any (a b : Nat × Nat × Nat) (w : World) (Ha : LtT a) (Hb : LtT b) (HE : encQ a = encA b) : Calls Try.prog 12 #[.agg (arrOf 12 (qT a)), .agg (arrOf 48 (ptT b))] w fun e w' => e = .returned (.bool true) ∧ Below w.heap.size w w' := by
  have Bw0 := Below.refl w.heap.size w
  have HGS : Hid (∀ wq : World, Below w.heap.size w wq → w.heap.size ≤ wq.heap.size) := Lib.hid fun wq h => h.size
  replace Ha := Lib.hid Ha
  replace Hb := Lib.hid Hb
  replace HE := Lib.hid HE
  go_enter Try.func12, Try.ntmps12
  go_wp2_with (first
    | (have hgo := Bw0; clear hgo
       refine wpList_box_row rfl 29 (.tmp 0) rfl 12 (qT a) rfl ?_
       intro b_t2 w1 lk r_t2 kk
       have l_t2 := Nat.le_trans (HGS.out _ Bw0) lk
       have Bw1 := Bw0.trans (kk.mono (HGS.out _ Bw0))
       clear Bw0 kk lk)
    | (have hgo := Bw1; clear hgo
       refine wpList_box_row rfl 36 (.tmp 1) rfl 48 (ptT b) rfl ?_
       intro b_t3 w2 lk r_t3 kk
       have n_t2_t3 : b_t2 ≠ b_t3 := Nat.ne_of_lt (Nat.lt_of_lt_of_le (World.rowIs.lt r_t2) lk)
       have l_t3 := Nat.le_trans (HGS.out _ Bw1) lk
       replace r_t2 := World.rowIs.of_block r_t2 (kk.block _ (World.rowIs.lt r_t2))
       have Bw2 := Bw1.trans (kk.mono (HGS.out _ Bw1))
       clear Bw1 kk lk))
  have Bw3 := Bw2.drew
  replace r_t2 := World.rowIs.drew r_t2
  replace r_t3 := World.rowIs.drew r_t3
  clear Bw2
  refine wp_region_po (Keep []) (Keep.refl _) (fun _ _ _ h1 h2 => h1.trans h2) (.rd 0 (.rd 3 .done)) #[true, false, false, true, false, false, false, false] [1, 2, 4, 5, 6, 7] [some 6, some 7, some 9, some 10, some 11, some 4] [[], [0], [0], [2], [1, 3], [0, 1, 2, 3, 4]] [(0, []), (1, [0]), (2, [1]), (3, []), (4, [3, 1]), (5, [4]), (6, [2, 5]), (7, [6, 4, 0, 1, 2, 3, 4, 5, 6])] 9 (by as_aux_lemma => kernel_rfl) (by as_aux_lemma => kernel_rfl) (by decide) (by as_aux_lemma => kernel_rfl) (by as_aux_lemma => kernel_rfl) (by as_aux_lemma => kernel_rfl) rfl (fun d _ _ _ _ h => by cases d <;> exact h) ?_
  refine lintz_pure 5 (Op.load 29 (Operand.tmp 2)) 29 (.agg (arrOf 12 (qT a))) rfl rfl rfl rfl rfl (fun w0 hb => by exact exec_load_as _ _ _ _ (qT a) rfl arrQ (Keep.row hb r_t2 rfl) (by omega) (fun i hi => by rw [Nat.zero_add])) ?_
  simp only [Act.put, List.setIfInBounds_toArray, List.set_cons_zero, List.set_cons_succ]
  refine lintz_pure 8 (Op.load 36 (Operand.tmp 3)) 36 (.agg (arrOf 48 (ptT b))) rfl rfl rfl rfl rfl (fun w0 hb => by exact exec_load_as _ _ _ _ (ptT b) rfl arrP (Keep.row hb r_t3 rfl) (by omega) (fun i hi => by rw [Nat.zero_add])) ?_
  simp only [Act.put, List.setIfInBounds_toArray, List.set_cons_zero, List.set_cons_succ]
  refine lintz_leaf ?_
  have HWF : poWf [.own (litB (encQ a) 32) 6, .val (.string ⟨(litB (encQ a) 32).toArray⟩), .own (litB (encA b) 32) 6, .val (.string ⟨(litB (encA b) 32).toArray⟩), .val (.bool true), .val (.bool true)] [] = true := by as_aux_lemma => kernel_rfl
  refine ⟨JG [.own (litB (encQ a) 32) 6, .val (.string ⟨(litB (encQ a) 32).toArray⟩), .own (litB (encA b) 32) 6, .val (.string ⟨(litB (encA b) 32).toArray⟩), .val (.bool true), .val (.bool true)] [] _, JG.start (Nat.le_refl _) (fun i hi => absurd hi (Nat.not_lt_zero _)), fun m gz wa p az hp hm hmp hcl hdn hE hJ hS hO => ?_, fun gz wa hE hJ => ?_⟩
  · rcases (show p = 0 ∨ p = 1 ∨ p = 2 ∨ p = 3 ∨ p = 4 ∨ p = 5 by have h9 : p < 6 := hp; omega) with rfl | rfl | rfl | rfl | rfl | rfl
    · have e5 : az.eval (.tmp 5) = .agg (arrOf 12 (qT a)) := hO 5 rfl
      exact po_owns 6 13 #[Operand.tmp 5] #[29] _ HWF hJ rfl hE (qTEncode_any a _ Ha.out) rfl rfl rfl rfl rfl Try.func13 (by kernel_rfl) (by kernel_rfl) (by simp only [List.map_toArray, List.map_cons, List.map_nil, eval_const, eval_func, e5] <;> rfl)
    · have e6 := hS 0 6 rfl (hdn 0 (by decide)) (Nat.le_of_ble_eq_true rfl)
      exact po_run 7 (Op.convert 22 9 (Operand.tmp 6)) 9 HWF hJ rfl hE rfl rfl rfl rfl rfl rfl (exec_str _ _ _ e6 (hJ.own (hdn 0 (by decide)) rfl (po_never hm (Nat.le_refl _))).bs)
    · have e8 : az.eval (.tmp 8) = .agg (arrOf 48 (ptT b)) := hO 8 rfl
      exact po_owns 9 52 #[Operand.tmp 8] #[36] _ HWF hJ rfl hE (tEncode_any b _ Hb.out) rfl rfl rfl rfl rfl Try.func52 (by kernel_rfl) (by kernel_rfl) (by simp only [List.map_toArray, List.map_cons, List.map_nil, eval_const, eval_func, e8] <;> rfl)
    · have e9 := hS 2 9 rfl (hdn 2 (by decide)) (Nat.le_of_ble_eq_true rfl)
      exact po_run 10 (Op.convert 22 9 (Operand.tmp 9)) 9 HWF hJ rfl hE rfl rfl rfl rfl rfl rfl (exec_str _ _ _ e9 (hJ.own (hdn 2 (by decide)) rfl (po_never hm (Nat.le_refl _))).bs)
    · have e7 := (hS 1 7 rfl (hdn 1 (by decide)) (Nat.le_of_ble_eq_true rfl)).trans (hJ.says (hdn 1 (by decide)) rfl)
      have e10 := (hS 3 10 rfl (hdn 3 (by decide)) (Nat.le_of_ble_eq_true rfl)).trans (hJ.says (hdn 3 (by decide)) rfl)
      exact po_run 11 (Op.binOp BinOp.eql 9 (Operand.tmp 7) (Operand.tmp 10) 9) _ HWF hJ rfl hE rfl rfl rfl rfl rfl rfl (exec_str_yes _ _ _ _ (by rw [HE.out]) e7 e10)
    · have e11 := (hS 4 11 rfl (hdn 4 (by decide)) (Nat.le_of_ble_eq_true rfl)).trans (hJ.says (hdn 4 (by decide)) rfl)
      exact po_run 4 (Op.assign (Operand.tmp 11)) _ HWF hJ rfl hE rfl rfl rfl rfl rfl rfl (by first | (simp only [execOp, mkOp, eval_const, e11]; done) | (simp only [execOp, mkOp, eval_const, e11]; go_simp))
  · have q1 := hJ.told 1 (by decide) rfl
    have q3 := hJ.told 3 (by decide) rfl
    have q4 := hJ.told 4 (by decide) rfl
    have q5 := hJ.told 5 (by decide) rfl
    rw [putO_true _ _ _ _ _ rfl]
    simp only [putA, Nat.zero_add, Nat.reduceAdd]
    rw [q1, q3, q4, q5]
    simp only [Act.put, List.setIfInBounds_toArray, List.set_cons_zero, List.set_cons_succ]
    refine po_end ?_
    replace r_t2 := Keep.row hE r_t2 rfl
    replace r_t3 := Keep.row hE r_t3 rfl
    have Bw4 := hE.below Bw3 (HGS.out _ Bw3) rfl
    clear Bw3 hE hJ HWF q1 q3 q4 q5
    go_wp2
    go_ret
    exact ⟨rfl, Bw4⟩
theorem exec_zeroQT {w : World} (ρ : Operand → Value) (t : TypeId) : (execOp ρ (mkOp (.build 29 #[]) t)).run Try.prog w = .ok (.value (.agg (arrOf 12 (qT (0, 0, 0))))) w := by
  have hr := run_build w 29 #[] (arrOf 12 (qT (0, 0, 0))) builtQT0
  simp [execOp, mkOp, hr, Result.andThen]
set_option maxHeartbeats 4000000 in
set_option maxRecDepth 10000 in
theorem awake8_any (w : World) : Calls Try.prog 9 #[] w fun e w' => e = .returned (.bool true) ∧ Below w.heap.size w w' := by
  have Bw0 := Below.refl w.heap.size w
  have HGS : Hid (∀ wq : World, Below w.heap.size w wq → w.heap.size ≤ wq.heap.size) := Lib.hid fun wq h => h.size
  go_enter Try.func9, Try.ntmps9
  go_wp2_with (first
    | (have hgo := Bw0; clear hgo
       go_at_call 16
       refine (qTBase_any _).mono ?_
       rintro e w2 ⟨rfl, kk⟩
       have Bw1 := Bw0.trans (kk.mono (HGS.out _ Bw0))
       clear Bw0 kk)
    | (have hgo := Bw1; clear hgo
       go_at_call 13
       refine (qTEncode_any bT _ LtT.base).mono ?_
       rintro e w3 ⟨v_e, rfl, o_e, kk⟩
       rw [encQ_base] at o_e
       obtain ⟨g, cap, hv, hg, hgs, _, _⟩ := o_e.open_cons (by rw [litB_length]; decide)
       rw [litB_length] at hv
       subst hv
       have f_e := o_e.bs
       clear hg hgs o_e
       have Bw2 := Bw1.trans (kk.mono (HGS.out _ Bw1))
       clear Bw1 kk)
    | (have hgo := Bw2; clear hgo
       go_at_call 10
       refine (dec_nil _).mono ?_
       rintro e w4 ⟨rfl, kk⟩
       replace f_e := Bs.below f_e kk (Nat.le_refl _)
       have Bw3 := Bw2.trans (kk.mono (HGS.out _ Bw2))
       clear Bw2 kk)
    | (have hgo := Bw3; clear hgo
       refine wpList_alloc_row rfl 29 rfl 12 (u64f fun _ => 0) zeroQ ?_
       intro b_t2 w8 lk r_t2 kk
       have l_t2 := Nat.le_trans (HGS.out _ Bw3) lk
       have a_e_t2 := Bs.away f_e lk
       replace f_e := Bs.below f_e kk (Nat.le_refl _)
       have Bw4 := Bw3.trans (kk.mono (HGS.out _ Bw3))
       clear Bw3 kk lk)
    | (have hgo := Bw4; clear hgo
       refine wpList_store_as rfl 29 (.tmp 2) (.tmp 8) rfl 12 (qT (0, 0, 0)) arrQ r_t2 rfl rfl (by omega) (fun j _ => qF_one _ _ _ j) (fun i hi => putN_whole hi) ?_
       intro w9 q gk
       replace r_t2 := q
       have Bw5 := Bw4.grown gk (HGS.out _ Bw4) (by intro k hk; cases hk; exact l_t2)
       replace f_e := gb_bs f_e gk a_e_t2
       clear Bw4 gk q
       have hc0 := bs_cell f_e 0 (by rw [litB_length]; decide)
       have hc1 := bs_cell f_e 1 (by rw [litB_length]; decide)
       have hc31 := bs_cell f_e 31 (by rw [litB_length]; decide)
       obtain ⟨hz0, hz1, hz31⟩ := base_bytes
       rw [show ((litB ptB.2 32)[0]'(by rw [litB_length]; decide)).toNat = 88 from by rw [← hz0, List.getD_eq_getElem?_getD, List.getElem?_eq_getElem (by rw [litB_length]; decide)]; rfl] at hc0
       rw [Nat.zero_add] at hc0
       replace hc0 : _ = some (Value.int .u8 88) := hc0
       rw [show ((litB ptB.2 32)[1]'(by rw [litB_length]; decide)).toNat = 102 from by rw [← hz1, List.getD_eq_getElem?_getD, List.getElem?_eq_getElem (by rw [litB_length]; decide)]; rfl] at hc1
       rw [Nat.zero_add] at hc1
       replace hc1 : _ = some (Value.int .u8 102) := hc1
       rw [show ((litB ptB.2 32)[31]'(by rw [litB_length]; decide)).toNat = 102 from by rw [← hz31, List.getD_eq_getElem?_getD, List.getElem?_eq_getElem (by rw [litB_length]; decide)]; rfl] at hc31
       rw [Nat.zero_add] at hc31
       replace hc31 : _ = some (Value.int .u8 102) := hc31
       clear hz0 hz1 hz31 f_e)
    | (have hgo := Bw5; clear hgo
       refine wpList_value_given rfl (.agg (arrOf 12 (qT (0, 0, 0)))) (by rw [exec_mkOp]; exact exec_zeroQT _ _) ?_
       have Bw6 := Bw5
       clear Bw5)
    | (have hgo := Bw6; clear hgo
       go_at_call 14
       refine (small_to (0, 0, 0) true _ LtT.none small_zero).mono ?_
       rintro e w38 ⟨rfl, kk⟩
       replace r_t2 := World.rowIs.of_block r_t2 (kk.block _ (World.rowIs.lt r_t2))
       have Bw7 := Bw6.trans (kk.mono (HGS.out _ Bw6))
       clear Bw6 kk))
  go_ret
  exact ⟨rfl, Bw7⟩
end Go.Proofs.Ytphkmaihnbhgoaa

/- The points of small order, the base's order: what PointOrder needs. -/
namespace Go.Proofs.Ytphkmaihnbhgoaa
open Go.RowKit Go.Deep
set_option linter.unusedSimpArgs false
set_option linter.unusedVariables false

def ptH : Nat × Nat := (0, p25 - 1)
theorem ptH_on : onE ptH := by
  refine ⟨p25_pos, by decide +kernel, ?_⟩
  unfold EC Z cE
  exact Int.dvd_of_emod_eq_zero (by decide +kernel)
theorem ptH_two : addE ptH ptH = ptO := twice_zero ptH_on (by
  unfold Z
  exact Int.dvd_of_emod_eq_zero (by decide +kernel))
theorem ptH_ne : ptH ≠ ptO := by decide +kernel
theorem mulE_two {P : Nat × Nat} (hP : onE P) : mulE 2 P = addE P P := by rw [show 2 = 1 + 1 from rfl, mulE_add hP, mulE_one hP]
theorem ptH_2 : mulE 2 ptH = ptO := by rw [mulE_two ptH_on, ptH_two]
theorem ptH_8 : mulE 8 ptH = ptO := by rw [show 8 = 2 * 4 from rfl, mulE_mul ptH_on, ptH_2, mulE_zero]
theorem zero_addE {P : Nat × Nat} (hP : onE P) : addE ptO P = P := by rw [addE_comm, addE_zero hP]
theorem addH_ne {P : Nat × Nat} (hP : onE P) : addE P ptH ≠ P := fun h => by
  have h2 : addE ptH P = addE ptO P := by rw [addE_comm ptH, zero_addE hP, h]
  exact ptH_ne (addE_cancel ptH_on ptO_on hP h2)
theorem addE_swap {A B C D : Nat × Nat} (hA : onE A) (hB : onE B) (hC : onE C) (hD : onE D) : addE (addE A B) (addE C D) = addE (addE A C) (addE B D) := by
  rw [addE_assoc hA hB (addE_on hC hD), ← addE_assoc hB hC hD, addE_comm B C, addE_assoc hC hB hD, ← addE_assoc hA hC (addE_on hB hD)]
theorem mulE_dist {P Q : Nat × Nat} (hP : onE P) (hQ : onE Q) : ∀ n, mulE n (addE P Q) = addE (mulE n P) (mulE n Q)
  | 0 => (addE_zero ptO_on).symm
  | n + 1 => by
    rw [mulE_add (addE_on hP hQ), mulE_add hP, mulE_add hQ, mulE_one (addE_on hP hQ), mulE_one hP, mulE_one hQ, mulE_dist hP hQ n]
    exact addE_swap (mulE_on hP n) (mulE_on hQ n) hP hQ
theorem even_H {P : Nat × Nat} (hP : onE P) (R : Nat) : mulE (2 * R) (addE P ptH) = mulE (2 * R) P := by
  rw [mulE_dist hP ptH_on, mulE_mul ptH_on, ptH_2, mulE_zero, addE_zero (mulE_on hP _)]
theorem oppL_one : 1 + oppL 1 = ordL := by decide +kernel
theorem minus_one (A : Nat) : mulE (oppL 1) (mulE A ptB) = negE (mulE A ptB) := by
  have hP := mulE_on ptB_on A
  have h1 : addE (mulE A ptB) (mulE (oppL 1) (mulE A ptB)) = ptO := by
    have g := mulE_add hP 1 (oppL 1)
    rw [mulE_one hP, oppL_one, ← mulE_mul ptB_on, Nat.mul_comm, mulE_mul ptB_on, ordL_zero, mulE_zero] at g
    exact g.symm
  refine addE_cancel (R := mulE A ptB) (mulE_on hP _) (negE_on hP) hP ?_
  rw [addE_comm, h1, addE_comm, addE_neg hP]
theorem order_zero {A : Nat} (hA : A < ordL) : mulE A ptB = ptO ↔ A = 0 := by
  constructor
  · intro h
    exact Nat.eq_zero_of_dvd_of_lt (ord_dvd h) hA
  · rintro rfl
    rfl
theorem order_eight {A : Nat} (hA : A < ordL) : mulE 8 (mulE A ptB) = ptO ↔ A = 0 := by
  constructor
  · intro h
    rw [← mulE_mul ptB_on] at h
    rcases prime_L.dvd_mul (ord_dvd h) with k | k
    · exact Nat.eq_zero_of_dvd_of_lt k hA
    · exact absurd k ord_odd
  · rintro rfl
    exact mulE_zero 8
def fillL (k : Nat) : List UInt8 := List.replicate k 255 ++ List.replicate (32 - k) 0
theorem fillL_len (k : Nat) (h : k ≤ 32) : (fillL k).length = 32 := by
  unfold fillL
  rw [List.length_append, List.length_replicate, List.length_replicate]
  omega
theorem fillL_sets : ∀ k : Fin 32, (fillL k.val).set k.val (UInt8.ofNat 255) = fillL (k.val + 1) := by decide +kernel
theorem fillL_set (k : Nat) (h : k < 32) : (fillL k).set k (UInt8.ofNat 255) = fillL (k + 1) := fillL_sets ⟨k, h⟩
theorem fill_end : ((fillL 32).set 0 (UInt8.ofNat 236)).set 31 (UInt8.ofNat 127) = litB (p25 - 1) 32 := by decide +kernel
theorem ptH_enc : encN ptH = p25 - 1 := by decide +kernel
theorem ptH_dec : decN (litB (p25 - 1) 32) = some ptH := by
  have h := decN_enc ptH_on
  rwa [ptH_enc] at h
theorem exec_neq_self {w : World} (ρ : Operand → Value) (x y : Operand) (t : TypeId) (b : Bool) (hx : ρ x = .bool b) (hy : ρ y = .bool b) : (execOp ρ (mkOp (.binOp .neq 4 x y 4) t)).run Try.prog w = .ok (.value (.bool false)) w := by
  simp only [execOp, mkOp, hx, hy]
  cases b <;> go_simp
theorem exec_mul2 {w : World} (ρ : Operand → Value) (x y : Operand) (t : TypeId) (R M : Nat) (hx : ρ x = .int .i64 2) (hy : ρ y = .int .i64 (R : Int)) (h : 2 * R = M) (hM : M < 1000) : (execOp ρ (mkOp (.binOp .mul 3 x y 3) t)).run Try.prog w = .ok (.value (.int .i64 (M : Int))) w := by
  have e : IntKind.i64.wrap (2 * (R : Int)) = (M : Int) := by rw [IntWalk.i64_in _ (by omega)]; omega
  simp only [execOp, mkOp, hx, hy]
  go_simp
theorem round_to (k : Int) (R : Nat) (w : World) (h0 : -9223372036854775808 ≤ k) (h1 : k ≤ 9223372036854775807) (h : k % 100 = (R : Int)) : Calls Try.prog 32 #[.int .i64 k, .int .i64 100] w fun e w' => e = .returned (.int .i64 (R : Int)) ∧ Below w.heap.size w w' := by
  refine (round_any k 100 w h0 h1 (by decide) (by decide)).mono ?_
  rintro e w' ⟨rfl, rfl⟩
  exact ⟨by rw [h], Below.refl _ _⟩
end Go.Proofs.Ytphkmaihnbhgoaa

/- A point's form with its sign turned. -/
set_option linter.unusedSimpArgs false
set_option linter.unusedVariables false
namespace Go.Proofs.Ytphkmaihnbhgoaa

theorem xor_up : ∀ q : Fin 128, UInt8.ofNat q.val ^^^ UInt8.ofNat (2 ^ 7) = UInt8.ofNat (q.val + 128) := by decide +kernel
theorem xor_down : ∀ q : Fin 128, UInt8.ofNat (q.val + 128) ^^^ UInt8.ofNat (2 ^ 7) = UInt8.ofNat q.val := by decide +kernel
theorem lit31 (V : Nat) : (litB V 32).getD 31 0 = UInt8.ofNat (V / 256 ^ 31) := by
  rw [List.getD_eq_getElem?_getD, List.getElem?_eq_getElem (by rw [litB_length]; decide), Option.getD_some, litB_at]
theorem flip_up (A : Nat) (h : A < p25) : flipB (litB A 32) 255 = litB (A + top) 32 := by
  unfold flipB
  rw [show 255 / 8 = 31 from rfl, show 255 % 8 = 7 from rfl, lit31, ← high_set A, high_plus]
  have g := xor_up ⟨A / 256 ^ 31, high_lt A h⟩
  dsimp only at g
  rw [g]
theorem flip_down (A : Nat) (h : A < p25) : flipB (litB (A + top) 32) 255 = litB A 32 := by
  unfold flipB
  rw [show 255 / 8 = 31 from rfl, show 255 % 8 = 7 from rfl, lit31, ← high_set A, high_plus]
  have g := xor_down ⟨A / 256 ^ 31, high_lt A h⟩
  dsimp only at g
  rw [g, List.set_set, low_set]
theorem encN_of {P : Nat × Nat} (hP : onE P) : encN P = P.2 + P.1 % 2 * top := rfl
theorem flip_neg {P : Nat × Nat} (hP : onE P) (h0 : P.1 ≠ 0) : flipB (litB (encN P) 32) 255 = litB (encN (negE P)) 32 := by
  have ho := oppP_odd hP.1 h0
  have e : encN (negE P) = P.2 + (1 - P.1 % 2) * top := by
    show P.2 + oppP P.1 % 2 * top = _
    rw [ho]
  rw [e, encN_of hP]
  rcases (show P.1 % 2 = 0 ∨ P.1 % 2 = 1 by omega) with h | h
  · rw [h, Nat.zero_mul, Nat.add_zero, Nat.sub_zero, Nat.one_mul]
    exact flip_up _ hP.2.1
  · rw [h, Nat.sub_self, Nat.zero_mul, Nat.add_zero, Nat.one_mul]
    exact flip_down _ hP.2.1
theorem flip_none {P : Nat × Nat} (hP : onE P) (h0 : P.1 = 0) : decN (flipB (litB (encN P) 32) 255) = none := by
  rw [encN_of hP, h0, Nat.zero_mod, Nat.zero_mul, Nat.add_zero, flip_up _ hP.2.1]
  have hlt := Nat.lt_trans hP.2.1 p25_ltop
  have h2 : P.2 + top < 2 * top := by generalize top = T at *; omega
  have hm : (P.2 + top) % top = P.2 := by rw [Nat.add_mod_right, Nat.mod_eq_of_lt hlt]
  have hd : (P.2 + top) / top = 1 := by rw [Nat.add_div_right _ top_pos', Nat.div_eq_of_lt hlt]
  unfold decN
  rw [numL_lit _ h2, hm, hd, if_pos ⟨litB_length _ _, hP.2.1⟩]
  obtain ⟨r, hr, hx, _, _⟩ := decX_of (x := 0) (Y := P.2) (by have h := hP; rw [← h0]; exact h)
  have hr0 : r = 0 := by
    rcases hx with h | h
    · exact h
    · rw [h, oppP_zero]
  rw [hr, Option.bind_some, if_pos ⟨rfl, hr0⟩]
theorem zero_of {A : Nat} (h : (mulE A ptB).1 = 0) : mulE A ptB = ptO := by
  by_cases hd : ordL ∣ A
  · obtain ⟨m, rfl⟩ := hd
    rw [mulE_mul ptB_on, ordL_zero, mulE_zero]
  · exfalso
    obtain ⟨g1, g2⟩ := good_mul hd
    have hE := (mulE_on ptB_on A).2.2
    unfold EC at hE
    rw [h] at hE
    generalize ((mulE A ptB).2 : Int) = y at *
    have k : Z (cE * ((1 - y) * (1 + y))) := hE.lin1 1 (by
      rw [Int.natCast_zero]
      generalize cE = c
      grind)
    exact Z.not_mul g1 g2 (k.cancel c_ne)
theorem negE_ne {P : Nat × Nat} (hP : onE P) (h0 : P.1 ≠ 0) : negE P ≠ P := fun h => by
  have ho := oppP_odd hP.1 h0
  have h1 : oppP P.1 = P.1 := congrArg Prod.fst h
  rw [h1] at ho
  omega
end Go.Proofs.Ytphkmaihnbhgoaa

/- From the reading of an argument to the words of the contracts: a slice of bytes, a slice of slices of bytes. -/
set_option linter.unusedSimpArgs false
set_option linter.unusedVariables false
namespace Go.Proofs.Ytphkmaihnbhgoaa
open Go.ChangeShapes Go.WideShapes Go.ChangeAt Go.RowKit Go.Deep

/-- The numbers of a row of bytes, as bytes. -/
def asB (zs : List Int) : List UInt8 := zs.map fun n => UInt8.ofNat n.toNat

theorem asB_at (n : Int) (h : 0 ≤ n ∧ n ≤ 255) : ((UInt8.ofNat n.toNat).toNat : Int) = n := by
  rw [UInt8.toNat_ofNat_of_lt' (by show n.toNat < 256; omega)]; omega

/-- A row of numbers whose cells are known, read as bytes. -/
theorem bs_of_cells {W : World} {a : Option Addr} {len cap : Nat} {zs : List Int} (hl : len ≤ cap) (hm : cap ≤ maxLen) (hz : zs.length = cap) (hn : a = none → cap = 0)
    (hwz : ∀ n ∈ zs, (Lit.int .u8 n).wf = true) (hcell : ∀ x, a = some x → ∀ i, i < cap → W.cell? (x.add i) = some (.int .u8 (zs.getD i 0))) : Bs W (.slice a len cap) (asB (zs.take len)) := by
  have hlen : (asB (zs.take len)).length = len := by simp [asB]; omega
  refine ⟨a, cap, by rw [hlen], by omega, hm, hn, fun y hy i hi => ?_⟩
  rw [hlen] at hi
  have hc := hcell y hy i (by omega)
  refine ⟨by rw [← add_block y i]; exact World.block_lt_of_cell? W _ hc, ?_⟩
  rw [hc]
  have hi2 : i < zs.length := by omega
  have hg : zs.getD i 0 = zs[i] := by simp [hi2]
  have hw := bd_u8 (hwz zs[i] (List.getElem_mem _))
  rw [← hg] at hw
  have e : (asB (zs.take len))[i]'(by rw [hlen]; exact hi) = UInt8.ofNat (zs.getD i 0).toNat := by
    simp [asB, List.getElem?_eq_getElem (show i < zs.length by omega)]
  rw [e, asB_at _ hw]

theorem bs_of_trod {H : Type} {enc : TypeId × Value → H} {W : World} {a : Option Addr} {len cap : Nat} {d : DataW H} {ps : List MemPlace}
    (h : DataW.Trod enc Try.prog W 0 (fun _ => true) true 22 (.slice a len cap) d ps) : ∃ l, Bs W (.slice a len cap) l := by
  obtain ⟨fuel, hf⟩ := h
  rcases open_ints Try.underlying22 Try.underlying5 (by kernel_rfl) hf with ⟨hcs, _⟩ | ⟨x, l, c, zs, hcs, _, hl, hm, hz, _, hcell, hwz⟩
  · simp [Value.cells] at hcs
    obtain ⟨rfl, rfl, rfl⟩ := hcs
    exact ⟨[], Bs.nil W⟩
  · simp [Value.cells] at hcs
    obtain ⟨rfl, rfl, rfl⟩ := hcs
    have hz' : zs.length = cap := by simpa using hz
    exact ⟨_, bs_of_cells hl hm hz' (fun h => by cases h) hwz (fun y hy i hi => by cases hy; exact hcell i (by omega))⟩

end Go.Proofs.Ytphkmaihnbhgoaa
