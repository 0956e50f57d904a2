/- The program's ladder: two points that lie apart by the point, the digits one by one; it tells what the document's ladder tells. -/
import Derived.Test.YtnoppemclfnlcaaEdX
import Derived.Test.YtnoppemclfnlcaaEdR
import Derived.Test.YtnoppemclfnlcaaBits8
namespace Go.Proofs.Ytnoppemclfnlcaa
open Go.RowKit Go.Deep
set_option linter.unusedSimpArgs false
set_option linter.unusedVariables false

theorem subP_square (a b : Nat) : mulP (subP p25 a b) (subP p25 a b) = mulP (subP p25 b a) (subP p25 b a) := by
  refine Z.eq (mulP_lt _ _) (mulP_lt _ _) ?_
  have h1 := Z_mulP (subP p25 a b) (subP p25 a b)
  have h2 := Z_mulP (subP p25 b a) (subP p25 b a)
  have k1 := Z_subP a b
  have k2 := Z_subP b a
  generalize ((mulP (subP p25 a b) (subP p25 a b) : Nat) : Int) = m1 at *
  generalize ((mulP (subP p25 b a) (subP p25 b a) : Nat) : Int) = m2 at *
  generalize ((subP p25 a b : Nat) : Int) = s at *
  generalize ((subP p25 b a : Nat) : Int) = t at *
  generalize (a : Int) = A at *
  generalize (b : Int) = B at *
  exact Z.lin4 1 (-1) (s + (A - B)) (-(t + (B - A))) h1 h2 k1 k2 (by grind)
theorem lx3_turned (x2 z2 x3 z3 : Nat) : lx3 x3 z3 x2 z2 = lx3 x2 z2 x3 z3 := by
  have h1 : lDA x3 z3 x2 z2 = lCB x2 z2 x3 z3 := mulP_comm _ _
  have h2 : lCB x3 z3 x2 z2 = lDA x2 z2 x3 z3 := mulP_comm _ _
  unfold lx3
  rw [h1, h2, addP_comm]
theorem lz3_turned (u x2 z2 x3 z3 : Nat) : lz3 u x3 z3 x2 z2 = lz3 u x2 z2 x3 z3 := by
  have h1 : lDA x3 z3 x2 z2 = lCB x2 z2 x3 z3 := mulP_comm _ _
  have h2 : lCB x3 z3 x2 z2 = lDA x2 z2 x3 z3 := mulP_comm _ _
  unfold lz3
  rw [h1, h2, subP_square]
/-- The lower one and the higher one behind so many digits. -/
def cliS (u K : Nat) : Nat → (Nat × Nat) × (Nat × Nat)
  | 0 => ((1, 0), (u, 1))
  | i + 1 =>
    let s := cliS u K i
    let b := (lx3 s.1.1 s.1.2 s.2.1 s.2.2, lz3 u s.1.1 s.1.2 s.2.1 s.2.2)
    if K / 2 ^ (254 - i) % 2 = 1 then (b, (lx2 s.2.1 s.2.2, lz2 s.2.1 s.2.2)) else ((lx2 s.1.1 s.1.2, lz2 s.1.1 s.1.2), b)
theorem cliS_lad (u K : Nat) : ∀ i, (ladS u K i).1 < 2 ∧ cliS u K i = if (ladS u K i).1 = 1 then ((ladS u K i).2.2, (ladS u K i).2.1) else ((ladS u K i).2.1, (ladS u K i).2.2)
  | 0 => ⟨Nat.zero_lt_two, rfl⟩
  | i + 1 => by
    obtain ⟨h1, h2⟩ := cliS_lad u K i
    have e : ladS u K (i + 1) = ladStep u (K / 2 ^ (254 - i) % 2) (ladS u K i) := rfl
    rw [e]
    unfold cliS
    rw [h2]
    generalize ladS u K i = s at *
    obtain ⟨sb, ⟨p1, p2⟩, ⟨p3, p4⟩⟩ := s
    have hb : K / 2 ^ (254 - i) % 2 < 2 := Nat.mod_lt _ (by decide)
    generalize K / 2 ^ (254 - i) % 2 = b at *
    dsimp only at *
    unfold ladStep
    dsimp only
    refine ⟨hb, ?_⟩
    have e1 := lx3_turned p3 p4 p1 p2
    have e2 := lz3_turned u p3 p4 p1 p2
    rcases (show b = 0 ∨ b = 1 by omega) with rfl | rfl <;> rcases (show sb = 0 ∨ sb = 1 by omega) with rfl | rfl
    · rfl
    · rfl
    · show ((lx3 p1 p2 p3 p4, lz3 u p1 p2 p3 p4), _) = ((lx3 p3 p4 p1 p2, lz3 u p3 p4 p1 p2), _)
      rw [← e1, ← e2]
      rfl
    · show ((lx3 p3 p4 p1 p2, lz3 u p3 p4 p1 p2), _) = ((lx3 p1 p2 p3 p4, lz3 u p1 p2 p3 p4), _)
      rw [e1, e2]
      rfl
theorem cliS_lt (u K : Nat) (hu : u < p25) (i : Nat) : (cliS u K i).1.1 < p25 ∧ (cliS u K i).1.2 < p25 ∧ (cliS u K i).2.1 < p25 ∧ (cliS u K i).2.2 < p25 := by
  obtain ⟨h1, h2⟩ := cliS_lad u K i
  obtain ⟨k1, k2, k3, k4⟩ := ladS_lt u K hu i
  rw [h2]
  split
  · exact ⟨k3, k4, k1, k2⟩
  · exact ⟨k1, k2, k3, k4⟩
theorem cliS_ladder (u K : Nat) : ladder u K = mulP (cliS u K 255).1.1 (invP (cliS u K 255).1.2) := by
  obtain ⟨h1, h2⟩ := cliS_lad u K 255
  rw [h2]
  unfold ladder ladEnd
  split <;> rfl
theorem cliS_one (u K i : Nat) (h : K / 2 ^ (254 - i) % 2 = 1) {a b c d : Nat} (hs : cliS u K i = ((a, b), (c, d))) : cliS u K (i + 1) = ((lx3 a b c d, lz3 u a b c d), (lx2 c d, lz2 c d)) := by
  unfold cliS
  rw [hs]
  dsimp only
  rw [if_pos h]
theorem cliS_nil (u K i : Nat) (h : ¬ K / 2 ^ (254 - i) % 2 = 1) {a b c d : Nat} (hs : cliS u K i = ((a, b), (c, d))) : cliS u K (i + 1) = ((lx2 a b, lz2 a b), (lx3 a b c d, lz3 u a b c d)) := by
  unfold cliS
  rw [hs]
  dsimp only
  rw [if_neg h]

set_option maxHeartbeats 8000000 in
set_option maxRecDepth 10000 in
theorem climb_any (gk K U : Nat) (w : World) (r_k : w.rowIs gk 5 32 (kF K)) (hU : U < p25) :
    Calls Try.prog 21 #[.slice (some ⟨gk, 0, none⟩) 32 32, .agg (arrOf 4 (ewF U))] w fun e w' => e = .returned (.agg (arrOf 4 (ewF (ladder U K)))) ∧ Below w.heap.size w w' := by
  have HU := Lib.hid hU
  obtain ⟨T, hT⟩ := nat_var (ladder U K)
  rw [← hT]
  replace hT := Lib.hid hT
  have B0 := Below.refl w.heap.size w
  have HGS : Hid (∀ wq : World, Below w.heap.size w wq → w.heap.size ≤ wq.heap.size) := Lib.hid fun wq h => h.size
  clear hU
  go_enter Try.func21, Try.ntmps21
  go_wp2_with (first
    | (have hgo := B0; clear hgo
       refine wpList_box_row rfl 42 (.tmp 1) rfl 4 (ewF U) rfl ?_
       intro b_t3 w1 lk r_t3 kk
       have n_k_t3 : gk ≠ b_t3 := Nat.ne_of_lt (Nat.lt_of_lt_of_le (World.rowIs.lt r_k) lk)
       have l_t3 := Nat.le_trans (HGS.out _ B0) lk
       replace r_k := World.rowIs.of_block r_k (kk.block _ (World.rowIs.lt r_k))
       have B1 := B0.trans (kk.mono (HGS.out _ B0))
       clear B0 kk lk)
    | (have hgo := B1; clear hgo
       refine wpList_alloc_row rfl 42 rfl 4 (u64f fun _ => 0) zeroE ?_
       intro b_t4 w2 lk r_t4 kk
       have n_k_t4 : gk ≠ b_t4 := Nat.ne_of_lt (Nat.lt_of_lt_of_le (World.rowIs.lt r_k) lk)
       have n_t3_t4 : b_t3 ≠ b_t4 := Nat.ne_of_lt (Nat.lt_of_lt_of_le (World.rowIs.lt r_t3) lk)
       have l_t4 := Nat.le_trans (HGS.out _ B1) lk
       replace r_k := World.rowIs.of_block r_k (kk.block _ (World.rowIs.lt r_k))
       replace r_t3 := World.rowIs.of_block r_t3 (kk.block _ (World.rowIs.lt r_t3))
       have B2 := B1.trans (kk.mono (HGS.out _ B1))
       clear B1 kk lk)
    | (have hgo := B2; clear hgo
       go_at_call 32
       refine (small_any 1 _ (by decide)).mono ?_
       rintro e w3 ⟨rfl, kk⟩
       replace r_k := World.rowIs.of_block r_k (kk.block _ (World.rowIs.lt r_k))
       replace r_t3 := World.rowIs.of_block r_t3 (kk.block _ (World.rowIs.lt r_t3))
       replace r_t4 := World.rowIs.of_block r_t4 (kk.block _ (World.rowIs.lt r_t4))
       have B3 := B2.trans (kk.mono (HGS.out _ B2))
       clear B2 kk)
    | (have hgo := B3; clear hgo
       refine wpList_alloc_row rfl 42 rfl 4 (u64f fun _ => 0) zeroE ?_
       intro b_t5 w4 lk r_t5 kk
       have n_k_t5 : gk ≠ b_t5 := Nat.ne_of_lt (Nat.lt_of_lt_of_le (World.rowIs.lt r_k) lk)
       have n_t3_t5 : b_t3 ≠ b_t5 := Nat.ne_of_lt (Nat.lt_of_lt_of_le (World.rowIs.lt r_t3) lk)
       have n_t4_t5 : b_t4 ≠ b_t5 := Nat.ne_of_lt (Nat.lt_of_lt_of_le (World.rowIs.lt r_t4) lk)
       have l_t5 := Nat.le_trans (HGS.out _ B3) lk
       replace r_k := World.rowIs.of_block r_k (kk.block _ (World.rowIs.lt r_k))
       replace r_t3 := World.rowIs.of_block r_t3 (kk.block _ (World.rowIs.lt r_t3))
       replace r_t4 := World.rowIs.of_block r_t4 (kk.block _ (World.rowIs.lt r_t4))
       have B4 := B3.trans (kk.mono (HGS.out _ B3))
       clear B3 kk lk)
    | (have hgo := B4; clear hgo
       refine wpList_store_as rfl 42 (.tmp 5) (.tmp 10) rfl 4 (ewF 1) arrE r_t5 rfl rfl (by omega) (fun _ _ => rfl) (fun i hi => putN_whole hi) ?_
       intro w5 q gk
       replace r_k := gb_rowIs r_k gk n_k_t5
       replace r_t3 := gb_rowIs r_t3 gk n_t3_t5
       replace r_t4 := gb_rowIs r_t4 gk n_t4_t5
       replace r_t5 := q
       have B5 := B4.grown gk (HGS.out _ B4) (by intro k hk; cases hk; exact l_t5)
       clear B4 gk q))
  have B6 := B5.drew
  replace r_k := World.rowIs.drew r_k
  replace r_t3 := World.rowIs.drew r_t3
  replace r_t4 := World.rowIs.drew r_t4
  replace r_t5 := World.rowIs.drew r_t5
  clear B5
  refine wp_region_po (Keep []) (Keep.refl _) (fun _ _ _ h1 h2 => h1.trans h2) (.rd 0 (.rd 1 (.rd 2 (.rd 3 (.rd 4 .done))))) #[true, true, true, true, true, false, false, false, false] [5, 6, 7, 8] [some 6, some 7, none, none] [[], [], [0, 1], [0, 1, 2]] [(0, []), (1, [0]), (2, []), (3, []), (4, [2, 3]), (5, []), (6, []), (7, [5, 1, 0, 1, 5, 6]), (8, [6, 4, 7, 0, 1, 2, 3, 4, 5, 6, 7])] 31 (by kernel_rfl) (by kernel_rfl) (by decide) (by kernel_rfl) (by kernel_rfl) (by kernel_rfl) rfl (fun d _ _ _ _ h => by cases d <;> exact h) ?_
  refine lintz_pure 11 (Op.load 42 (Operand.tmp 5)) 42 (.agg (arrOf 4 (ewF 1))) rfl rfl rfl rfl rfl (fun w0 hb => by exact exec_load_as _ _ _ _ (ewF 1) rfl arrE (Keep.row hb r_t5 rfl) (by omega) (fun i hi => by rw [Nat.zero_add])) ?_
  simp only [Act.put, List.setIfInBounds_toArray, List.set_cons_zero, List.set_cons_succ]
  refine lintz_pure 12 (Op.build 54 #[(0, Operand.tmp 11)]) 54 (.agg (arrOf 8 (rtF 1 0))) rfl rfl rfl rfl rfl (fun w0 hb => by refine exec_build_as _ _ _ ?_; simp only [List.map_toArray, List.map_cons, List.map_nil]; exact builtR1 _) ?_
  simp only [Act.put, List.setIfInBounds_toArray, List.set_cons_zero, List.set_cons_succ]
  refine lintz_pure 13 (Op.load 42 (Operand.tmp 3)) 42 (.agg (arrOf 4 (ewF U))) rfl rfl rfl rfl rfl (fun w0 hb => by exact exec_load_as _ _ _ _ (ewF U) rfl arrE (Keep.row hb r_t3 rfl) (by omega) (fun i hi => by rw [Nat.zero_add])) ?_
  simp only [Act.put, List.setIfInBounds_toArray, List.set_cons_zero, List.set_cons_succ]
  refine lintz_pure 14 (Op.load 42 (Operand.tmp 5)) 42 (.agg (arrOf 4 (ewF 1))) rfl rfl rfl rfl rfl (fun w0 hb => by exact exec_load_as _ _ _ _ (ewF 1) rfl arrE (Keep.row hb r_t5 rfl) (by omega) (fun i hi => by rw [Nat.zero_add])) ?_
  simp only [Act.put, List.setIfInBounds_toArray, List.set_cons_zero, List.set_cons_succ]
  refine lintz_pure 15 (Op.build 54 #[(0, Operand.tmp 13), (1, Operand.tmp 14)]) 54 (.agg (arrOf 8 (rtF U 1))) rfl rfl rfl rfl rfl (fun w0 hb => by refine exec_build_as _ _ _ ?_; simp only [List.map_toArray, List.map_cons, List.map_nil]; exact builtR _ _) ?_
  simp only [Act.put, List.setIfInBounds_toArray, List.set_cons_zero, List.set_cons_succ]
  refine lintz_leaf ?_
  have HWF : poWf [.row 54 8 (u64f fun _ => 0) 2 (rtF 1 0), .row 54 8 (u64f fun _ => 0) 3 (rtF U 1), .nil, .nil] [] = true := by kernel_rfl
  refine ⟨JG [.row 54 8 (u64f fun _ => 0) 2 (rtF 1 0), .row 54 8 (u64f fun _ => 0) 3 (rtF U 1), .nil, .nil] [] _, JG.start (Nat.le_refl _) (fun i hi => absurd hi (Nat.not_lt_zero _)), fun m gz wa p az hp hm hmp hcl hdn hE hJ hS hO => ?_, fun gz wa hE hJ => ?_⟩
  · rcases (show p = 0 ∨ p = 1 ∨ p = 2 ∨ p = 3 by have h9 : p < 4 := hp; omega) with rfl | rfl | rfl | rfl
    · exact po_alloc 6 _ 54 8 (u64f fun _ => 0) _ _ HWF hJ rfl (po_notyet hcl hmp (by rw [hm]; exact hp) (by decide)) hE rfl rfl rfl rfl rfl rfl zeroR
    · exact po_alloc 7 _ 54 8 (u64f fun _ => 0) _ _ HWF hJ rfl (po_notyet hcl hmp (by rw [hm]; exact hp) (by decide)) hE rfl rfl rfl rfl rfl rfl zeroR
    · have e12 : az.eval (.tmp 12) = .agg (arrOf 8 (rtF 1 0)) := hO 12 rfl
      exact po_storeRow 0 (.tmp 6) (.tmp 12) 54 8 _ _ (by rw [hm]; exact hp) hmp hJ rfl rfl (hdn 0 (by decide)) (by kernel_rfl) (fun i hi => absurd hi (Nat.not_lt_zero _)) hE rfl rfl rfl rfl rfl (hS 0 6 rfl (hdn 0 (by decide)) (Nat.le_of_ble_eq_true rfl)) e12 arrR (fun j _ => rt_one _ _ j)
    · have e15 : az.eval (.tmp 15) = .agg (arrOf 8 (rtF U 1)) := hO 15 rfl
      exact po_storeRow 1 (.tmp 7) (.tmp 15) 54 8 _ _ (by rw [hm]; exact hp) hmp hJ rfl rfl (hdn 1 (by decide)) (by kernel_rfl) (fun i hi => absurd hi (Nat.not_lt_zero _)) hE rfl rfl rfl rfl rfl (hS 1 7 rfl (hdn 1 (by decide)) (Nat.le_of_ble_eq_true rfl)) e15 arrR (fun j _ => rt_one _ _ j)
  · obtain ⟨b_t6, p_t6, lk_t6, r_t6, d_t6⟩ := hJ.row 0 (by decide) rfl (by decide)
    obtain ⟨b_t7, p_t7, lk_t7, r_t7, d_t7⟩ := hJ.row 1 (by decide) rfl (by decide)
    show PoEnd _ (Act.put (Act.put (Act.put (Act.put _ (some 6) (gz 0)) (some 7) (gz 1)) none (gz 2)) none (gz 3)) wa
    rw [p_t6, p_t7]
    simp only [Act.put, List.setIfInBounds_toArray, List.set_cons_zero, List.set_cons_succ]
    refine po_end ?_
    have n_k_t6 : gk ≠ b_t6 := Nat.ne_of_lt (Nat.lt_of_lt_of_le (World.rowIs.lt r_k) lk_t6)
    have n_t3_t6 : b_t3 ≠ b_t6 := Nat.ne_of_lt (Nat.lt_of_lt_of_le (World.rowIs.lt r_t3) lk_t6)
    have n_t4_t6 : b_t4 ≠ b_t6 := Nat.ne_of_lt (Nat.lt_of_lt_of_le (World.rowIs.lt r_t4) lk_t6)
    have n_t5_t6 : b_t5 ≠ b_t6 := Nat.ne_of_lt (Nat.lt_of_lt_of_le (World.rowIs.lt r_t5) lk_t6)
    have l_t6 := Nat.le_trans (HGS.out _ B6) lk_t6
    have n_k_t7 : gk ≠ b_t7 := Nat.ne_of_lt (Nat.lt_of_lt_of_le (World.rowIs.lt r_k) lk_t7)
    have n_t3_t7 : b_t3 ≠ b_t7 := Nat.ne_of_lt (Nat.lt_of_lt_of_le (World.rowIs.lt r_t3) lk_t7)
    have n_t4_t7 : b_t4 ≠ b_t7 := Nat.ne_of_lt (Nat.lt_of_lt_of_le (World.rowIs.lt r_t4) lk_t7)
    have n_t5_t7 : b_t5 ≠ b_t7 := Nat.ne_of_lt (Nat.lt_of_lt_of_le (World.rowIs.lt r_t5) lk_t7)
    have l_t7 := Nat.le_trans (HGS.out _ B6) lk_t7
    have n_t6_t7 : b_t6 ≠ b_t7 := ptr_ne (by rw [← p_t6, ← p_t7]; exact d_t7 0 (by decide) (by decide) rfl)
    replace r_k := Keep.row hE r_k rfl
    replace r_t3 := Keep.row hE r_t3 rfl
    replace r_t4 := Keep.row hE r_t4 rfl
    replace r_t5 := Keep.row hE r_t5 rfl
    have B7 := hE.below B6 (HGS.out _ B6) rfl
    clear B6 hE hJ HWF p_t6 lk_t6 d_t6 p_t7 lk_t7 d_t7
    go_wp2
    go_loopw [8] (fun tv wr => ∃ i : Nat, ∃ c1 c2 c3 c4 : Nat, i ≤ 255 ∧ cliS U K i = ((c1, c2), (c3, c4)) ∧ tv = .int .i64 (254 - (i : Int)) ∧ wr.rowIs b_t6 54 8 (rtF c1 c2) ∧ wr.rowIs b_t7 54 8 (rtF c3 c4) ∧ wr.rowIs b_t3 42 4 (ewF U) ∧ wr.rowIs b_t4 42 4 (u64f fun _ => 0) ∧ wr.rowIs gk 5 32 (kF K) ∧ Below w.heap.size w wr) (fun tv _ => ((intOf tv) + 1).toNat)
    case atStart =>
      exact ⟨0, 1, 0, U, 1, Nat.zero_le _, rfl, rfl, r_t6, r_t7, r_t3, r_t4, r_k, B7⟩
    case round =>
    clear r_t6 r_t7 r_t3 r_t4 r_k B7
    obtain ⟨i, c1, c2, c3, c4, hi, hcl, rfl, r_t6, r_t7, r_t3, r_t4, r_k, B⟩ := hrel
    have hlt := cliS_lt U K HU.out i
    rw [hcl] at hlt
    obtain ⟨hl1, hl2, hl3, hl4⟩ := hlt
    have Hc1 := Lib.hid hl1
    have Hc2 := Lib.hid hl2
    have Hc3 := Lib.hid hl3
    have Hc4 := Lib.hid hl4
    replace hcl := Lib.hid hcl
    clear hl1 hl2 hl3 hl4
    by_cases h255 : i < 255
    · obtain ⟨tt, htt⟩ := nat_var (254 - i)
      have htI : 254 - (i : Int) = (tt : Int) := by omega
      rw [htI]
      have HTI := Lib.hid (show (tt : Int) = 254 - (i : Int) from htI.symm)
      have ht0 : 0 ≤ (tt : Int) := by omega
      obtain ⟨t8, ht8⟩ := nat_var (tt / 8)
      obtain ⟨tr, htr⟩ := nat_var (tt % 8)
      have hi8 : 0 ≤ (t8 : Int) ∧ (t8 : Int) < 32 := by omega
      have H32 : Hid (t8 < 32) := Lib.hid (by omega)
      have hbt := bit_at K tt
      rw [← ht8, ← htr] at hbt
      obtain ⟨x, hx⟩ := nat_var (byteN K t8)
      have hxl : x < 256 := by rw [hx]; exact byteN_lt K t8
      rw [← hx] at hbt
      obtain ⟨y, hy⟩ := nat_var (x / 2 ^ tr)
      have hyl : y < 256 := by rw [hy]; exact Nat.lt_of_le_of_lt (Nat.div_le_self _ _) hxl
      rw [← hy] at hbt
      obtain ⟨bt, hb⟩ := nat_var (y % 2)
      rw [← hb, htt] at hbt
      have HBI := Lib.hid hbt.symm
      have hbt2 : bt < 2 := by omega
      have HX := Lib.hid hx
      have HT8 := Lib.hid ht8
      have HR8 := Lib.hid htr
      have HTT : Hid (tt < 1000) := Lib.hid (by omega)
      have HSH := Lib.hid hy
      have HRL : Hid (tr < 8) := Lib.hid (by omega)
      have HXL := Lib.hid hxl
      have HBT := Lib.hid hb
      have HYL := Lib.hid hyl
      have htn : IntKind.i64.wrap ((tt : Int) - 1) = (tt : Int) - 1 := IntWalk.i64_in _ (by omega)
      clear hb hbt hy hyl hxl hx htr ht8 htt htI
      rcases (show bt = 0 ∨ bt = 1 by omega) with rfl | rfl
      · have B0 := B
        clear B
        go_wp2_with (first
          | (have hgo := B0; clear hgo
             refine wpList_load_as rfl 54 (.tmp 6) rfl 8 (rtF c1 c2) arrR r_t6 rfl (by omega) (fun i hi => by rw [Nat.zero_add]) ?_)
          | (have hgo := B0; clear hgo
             refine wpList_load_as rfl 54 (.tmp 7) rfl 8 (rtF c3 c4) arrR r_t7 rfl (by omega) (fun i hi => by rw [Nat.zero_add]) ?_)
          | (have hgo := B0; clear hgo
             refine wpList_load_as rfl 42 (.tmp 3) rfl 4 (ewF U) arrE r_t3 rfl (by omega) (fun i hi => by rw [Nat.zero_add]) ?_)
          | (have hgo := B0; clear hgo
             go_at_call 33
             refine (radd_any c1 c2 c3 c4 U _ Hc1.out Hc2.out Hc3.out Hc4.out HU.out).mono ?_
             rintro e w9 ⟨rfl, kk⟩
             replace r_t6 := World.rowIs.of_block r_t6 (kk.block _ (World.rowIs.lt r_t6))
             replace r_t7 := World.rowIs.of_block r_t7 (kk.block _ (World.rowIs.lt r_t7))
             replace r_t3 := World.rowIs.of_block r_t3 (kk.block _ (World.rowIs.lt r_t3))
             replace r_t4 := World.rowIs.of_block r_t4 (kk.block _ (World.rowIs.lt r_t4))
             replace r_k := World.rowIs.of_block r_k (kk.block _ (World.rowIs.lt r_k))
             have B1 := B0.trans (kk.mono (HGS.out _ B0))
             clear B0 kk)
          | (have hgo := B1; clear hgo
             refine wpList_alloc_row rfl 54 rfl 8 (u64f fun _ => 0) zeroR ?_
             intro b_t9 w10 lk r_t9 kk
             have n_t6_t9 : b_t6 ≠ b_t9 := Nat.ne_of_lt (Nat.lt_of_lt_of_le (World.rowIs.lt r_t6) lk)
             have n_t7_t9 : b_t7 ≠ b_t9 := Nat.ne_of_lt (Nat.lt_of_lt_of_le (World.rowIs.lt r_t7) lk)
             have n_t3_t9 : b_t3 ≠ b_t9 := Nat.ne_of_lt (Nat.lt_of_lt_of_le (World.rowIs.lt r_t3) lk)
             have n_t4_t9 : b_t4 ≠ b_t9 := Nat.ne_of_lt (Nat.lt_of_lt_of_le (World.rowIs.lt r_t4) lk)
             have n_k_t9 : gk ≠ b_t9 := Nat.ne_of_lt (Nat.lt_of_lt_of_le (World.rowIs.lt r_k) lk)
             have l_t9 := Nat.le_trans (HGS.out _ B1) lk
             replace r_t6 := World.rowIs.of_block r_t6 (kk.block _ (World.rowIs.lt r_t6))
             replace r_t7 := World.rowIs.of_block r_t7 (kk.block _ (World.rowIs.lt r_t7))
             replace r_t3 := World.rowIs.of_block r_t3 (kk.block _ (World.rowIs.lt r_t3))
             replace r_t4 := World.rowIs.of_block r_t4 (kk.block _ (World.rowIs.lt r_t4))
             replace r_k := World.rowIs.of_block r_k (kk.block _ (World.rowIs.lt r_k))
             have B2 := B1.trans (kk.mono (HGS.out _ B1))
             clear B1 kk lk)
          | (have hgo := B2; clear hgo
             refine wpList_store_as rfl 54 (.tmp 9) (.tmp 23) rfl 8 (rtF (lx3 c1 c2 c3 c4) (lz3 U c1 c2 c3 c4)) arrR r_t9 rfl rfl (by omega) (fun j _ => rt_one _ _ j) (fun i hi => putN_whole hi) ?_
             intro w11 q gk
             replace r_t6 := gb_rowIs r_t6 gk n_t6_t9
             replace r_t7 := gb_rowIs r_t7 gk n_t7_t9
             replace r_t3 := gb_rowIs r_t3 gk n_t3_t9
             replace r_t4 := gb_rowIs r_t4 gk n_t4_t9
             replace r_k := gb_rowIs r_k gk n_k_t9
             replace r_t9 := q
             have B3 := B2.grown gk (HGS.out _ B2) (by intro k hk; cases hk; exact l_t9)
             clear B2 gk q
             have hcell := World.rowIs.cell r_k (i := t8) H32.out
             unfold kF at hcell
             rw [← HX.out] at hcell)
          | (have hgo := B3; clear hgo
             refine wpList_quo8 rfl (.tmp 25) (.const (.int .i64 8)) rfl rfl rfl HT8.out HTT.out ?_)
          | (have hgo := B3; clear hgo
             refine wpList_rem8 rfl (.tmp 29) (.const (.int .i64 8)) rfl rfl rfl HR8.out HTT.out ?_)
          | (have hgo := B3; clear hgo
             refine wpList_shr8 rfl (.tmp 28) (.tmp 30) rfl rfl rfl HSH.out HRL.out HXL.out ?_)
          | (have hgo := B3; clear hgo
             refine wpList_and1 rfl (.tmp 31) (.const (.int .u8 1)) rfl rfl rfl HBT.out HYL.out ?_))
        have B4 := B3.drew
        replace r_t6 := World.rowIs.drew r_t6
        replace r_t7 := World.rowIs.drew r_t7
        replace r_t3 := World.rowIs.drew r_t3
        replace r_t4 := World.rowIs.drew r_t4
        replace r_k := World.rowIs.drew r_k
        replace r_t9 := World.rowIs.drew r_t9
        clear B3
        refine wp_region_po (Keep [b_t6, b_t7]) (Keep.refl _) (fun _ _ _ h1 h2 => h1.trans h2) (.rd 2 .done) #[false, false, true, false, false] [0, 1, 3, 4] [some 37, some 38, none, none] [[], [0], [0, 1], [0, 1, 2]] [(0, []), (1, [0]), (2, []), (3, [1, 1, 0, 1]), (4, [2, 3, 0, 1, 2, 3])] 4 (by kernel_rfl) (by kernel_rfl) (by decide) (by kernel_rfl) (by kernel_rfl) (by kernel_rfl) rfl (fun d _ _ _ _ h => by cases d <;> exact h) ?_
        refine lintz_pure 39 (Op.load 54 (Operand.tmp 9)) 54 (.agg (arrOf 8 (rtF (lx3 c1 c2 c3 c4) (lz3 U c1 c2 c3 c4)))) rfl rfl rfl rfl rfl (fun w0 hb => by exact exec_load_as _ _ _ _ (rtF (lx3 c1 c2 c3 c4) (lz3 U c1 c2 c3 c4)) rfl arrR (Keep.row hb r_t9 (cont2 (Ne.symm n_t6_t9) (Ne.symm n_t7_t9))) (by omega) (fun i hi => by rw [Nat.zero_add])) ?_
        simp only [Act.put, List.setIfInBounds_toArray, List.set_cons_zero, List.set_cons_succ]
        refine lintz_leaf ?_
        have HWF : poWf [.val (.agg (arrOf 8 (rtF c1 c2))), .val (.agg (arrOf 8 (rtF (lx2 c1 c2) (lz2 c1 c2)))), .nil, .nil] [⟨b_t6, 54, 8, (rtF c1 c2), 2, (rtF (lx2 c1 c2) (lz2 c1 c2))⟩, ⟨b_t7, 54, 8, (rtF c3 c4), 3, (rtF (lx3 c1 c2 c3 c4) (lz3 U c1 c2 c3 c4))⟩] = true := by kernel_rfl
        refine ⟨JG [.val (.agg (arrOf 8 (rtF c1 c2))), .val (.agg (arrOf 8 (rtF (lx2 c1 c2) (lz2 c1 c2)))), .nil, .nil] [⟨b_t6, 54, 8, (rtF c1 c2), 2, (rtF (lx2 c1 c2) (lz2 c1 c2))⟩, ⟨b_t7, 54, 8, (rtF c3 c4), 3, (rtF (lx3 c1 c2 c3 c4) (lz3 U c1 c2 c3 c4))⟩] _, JG.start (Nat.le_refl _) (po_olds2 r_t6 r_t7), fun m gz wa p az hp hm hmp hcl hdn hE hJ hS hO => ?_, fun gz wa hE hJ => ?_⟩
        · rcases (show p = 0 ∨ p = 1 ∨ p = 2 ∨ p = 3 by have h9 : p < 4 := hp; omega) with rfl | rfl | rfl | rfl
          · have ro : wa.rowIs b_t6 54 8 (rtF c1 c2) := hJ.old0 0 (show 0 < 2 by decide) (po_notyet (s := 2) hcl hmp (by rw [hm]; exact hp) (by decide))
            exact po_run 37 (Op.load 54 (Operand.tmp 6)) _ HWF hJ rfl hE rfl rfl rfl rfl rfl rfl (exec_load_as _ _ _ _ (rtF c1 c2) (hO 6 rfl) arrR ro (by omega) (fun i hi => by rw [Nat.zero_add]))
          · have e37 := (hS 0 37 rfl (hdn 0 (by decide)) (Nat.le_of_ble_eq_true rfl)).trans (hJ.says (hdn 0 (by decide)) rfl)
            exact po_call 38 34 #[Operand.tmp 37] #[54] _ HWF hJ rfl hE (rdouble_any c1 c2 _ Hc1.out Hc2.out) rfl rfl rfl rfl rfl Try.func34 (by kernel_rfl) (by kernel_rfl) (by simp only [List.map_toArray, List.map_cons, List.map_nil, eval_const, eval_func, e37] <;> rfl)
          · have e38 := (hS 1 38 rfl (hdn 1 (by decide)) (Nat.le_of_ble_eq_true rfl)).trans (hJ.says (hdn 1 (by decide)) rfl)
            exact po_storeOld 0 (.tmp 6) (.tmp 38) 54 b_t6 8 _ (by rw [hm]; exact hp) hmp hJ rfl (show 0 < 2 by decide) rfl rfl rfl rfl rfl (World.rowIs.lt r_t6) (by simp) (by kernel_rfl) (po_ne2a (show 3 ≠ 2 by decide) (Ne.symm n_t6_t7)) hE rfl rfl rfl rfl rfl (hO 6 rfl) e38 arrR (fun j _ => rt_one _ _ j)
          · have e39 : az.eval (.tmp 39) = .agg (arrOf 8 (rtF (lx3 c1 c2 c3 c4) (lz3 U c1 c2 c3 c4))) := hO 39 rfl
            exact po_storeOld 1 (.tmp 7) (.tmp 39) 54 b_t7 8 _ (by rw [hm]; exact hp) hmp hJ rfl (show 1 < 2 by decide) rfl rfl rfl rfl rfl (World.rowIs.lt r_t7) (by simp) (by kernel_rfl) (po_ne2b (show 2 ≠ 3 by decide) n_t6_t7) hE rfl rfl rfl rfl rfl (hO 7 rfl) e39 arrR (fun j _ => rt_one _ _ j)
        · have q0 := hJ.told 0 (by decide) rfl
          have q1 := hJ.told 1 (by decide) rfl
          show PoEnd _ (Act.put (Act.put (Act.put (Act.put _ (some 37) (gz 0)) (some 38) (gz 1)) none (gz 2)) none (gz 3)) wa
          rw [q0, q1]
          simp only [Act.put, List.setIfInBounds_toArray, List.set_cons_zero, List.set_cons_succ]
          refine po_end ?_
          replace r_t6 : wa.rowIs b_t6 54 8 (rtF (lx2 c1 c2) (lz2 c1 c2)) := hJ.old 0 (show 0 < 2 by decide) (show 2 < 4 by decide)
          replace r_t7 : wa.rowIs b_t7 54 8 (rtF (lx3 c1 c2 c3 c4) (lz3 U c1 c2 c3 c4)) := hJ.old 1 (show 1 < 2 by decide) (show 3 < 4 by decide)
          replace r_t3 := Keep.row hE r_t3 (cont2 n_t3_t6 n_t3_t7)
          replace r_t4 := Keep.row hE r_t4 (cont2 n_t4_t6 n_t4_t7)
          replace r_k := Keep.row hE r_k (cont2 n_k_t6 n_k_t7)
          replace r_t9 := Keep.row hE r_t9 (cont2 (Ne.symm n_t6_t9) (Ne.symm n_t7_t9))
          have B5 := hE.below B4 (HGS.out _ B4) (keep_all2 l_t6 l_t7)
          clear B4 hE hJ HWF q0 q1
          go_wp2
          go_roundw
          case rel =>
            exact ⟨i + 1, _, _, _, _, by omega, cliS_nil U K i (by rw [HBI.out]; decide) hcl.out, by rw [HTI.out]; go_num, r_t6, r_t7, r_t3, r_t4, r_k, B5⟩
          case measure => (simp [intOf]; try omega)
      · have B0 := B
        clear B
        go_wp2_with (first
          | (have hgo := B0; clear hgo
             refine wpList_load_as rfl 54 (.tmp 6) rfl 8 (rtF c1 c2) arrR r_t6 rfl (by omega) (fun i hi => by rw [Nat.zero_add]) ?_)
          | (have hgo := B0; clear hgo
             refine wpList_load_as rfl 54 (.tmp 7) rfl 8 (rtF c3 c4) arrR r_t7 rfl (by omega) (fun i hi => by rw [Nat.zero_add]) ?_)
          | (have hgo := B0; clear hgo
             refine wpList_load_as rfl 42 (.tmp 3) rfl 4 (ewF U) arrE r_t3 rfl (by omega) (fun i hi => by rw [Nat.zero_add]) ?_)
          | (have hgo := B0; clear hgo
             go_at_call 33
             refine (radd_any c1 c2 c3 c4 U _ Hc1.out Hc2.out Hc3.out Hc4.out HU.out).mono ?_
             rintro e w9 ⟨rfl, kk⟩
             replace r_t6 := World.rowIs.of_block r_t6 (kk.block _ (World.rowIs.lt r_t6))
             replace r_t7 := World.rowIs.of_block r_t7 (kk.block _ (World.rowIs.lt r_t7))
             replace r_t3 := World.rowIs.of_block r_t3 (kk.block _ (World.rowIs.lt r_t3))
             replace r_t4 := World.rowIs.of_block r_t4 (kk.block _ (World.rowIs.lt r_t4))
             replace r_k := World.rowIs.of_block r_k (kk.block _ (World.rowIs.lt r_k))
             have B1 := B0.trans (kk.mono (HGS.out _ B0))
             clear B0 kk)
          | (have hgo := B1; clear hgo
             refine wpList_alloc_row rfl 54 rfl 8 (u64f fun _ => 0) zeroR ?_
             intro b_t9 w10 lk r_t9 kk
             have n_t6_t9 : b_t6 ≠ b_t9 := Nat.ne_of_lt (Nat.lt_of_lt_of_le (World.rowIs.lt r_t6) lk)
             have n_t7_t9 : b_t7 ≠ b_t9 := Nat.ne_of_lt (Nat.lt_of_lt_of_le (World.rowIs.lt r_t7) lk)
             have n_t3_t9 : b_t3 ≠ b_t9 := Nat.ne_of_lt (Nat.lt_of_lt_of_le (World.rowIs.lt r_t3) lk)
             have n_t4_t9 : b_t4 ≠ b_t9 := Nat.ne_of_lt (Nat.lt_of_lt_of_le (World.rowIs.lt r_t4) lk)
             have n_k_t9 : gk ≠ b_t9 := Nat.ne_of_lt (Nat.lt_of_lt_of_le (World.rowIs.lt r_k) lk)
             have l_t9 := Nat.le_trans (HGS.out _ B1) lk
             replace r_t6 := World.rowIs.of_block r_t6 (kk.block _ (World.rowIs.lt r_t6))
             replace r_t7 := World.rowIs.of_block r_t7 (kk.block _ (World.rowIs.lt r_t7))
             replace r_t3 := World.rowIs.of_block r_t3 (kk.block _ (World.rowIs.lt r_t3))
             replace r_t4 := World.rowIs.of_block r_t4 (kk.block _ (World.rowIs.lt r_t4))
             replace r_k := World.rowIs.of_block r_k (kk.block _ (World.rowIs.lt r_k))
             have B2 := B1.trans (kk.mono (HGS.out _ B1))
             clear B1 kk lk)
          | (have hgo := B2; clear hgo
             refine wpList_store_as rfl 54 (.tmp 9) (.tmp 23) rfl 8 (rtF (lx3 c1 c2 c3 c4) (lz3 U c1 c2 c3 c4)) arrR r_t9 rfl rfl (by omega) (fun j _ => rt_one _ _ j) (fun i hi => putN_whole hi) ?_
             intro w11 q gk
             replace r_t6 := gb_rowIs r_t6 gk n_t6_t9
             replace r_t7 := gb_rowIs r_t7 gk n_t7_t9
             replace r_t3 := gb_rowIs r_t3 gk n_t3_t9
             replace r_t4 := gb_rowIs r_t4 gk n_t4_t9
             replace r_k := gb_rowIs r_k gk n_k_t9
             replace r_t9 := q
             have B3 := B2.grown gk (HGS.out _ B2) (by intro k hk; cases hk; exact l_t9)
             clear B2 gk q
             have hcell := World.rowIs.cell r_k (i := t8) H32.out
             unfold kF at hcell
             rw [← HX.out] at hcell)
          | (have hgo := B3; clear hgo
             refine wpList_quo8 rfl (.tmp 25) (.const (.int .i64 8)) rfl rfl rfl HT8.out HTT.out ?_)
          | (have hgo := B3; clear hgo
             refine wpList_rem8 rfl (.tmp 29) (.const (.int .i64 8)) rfl rfl rfl HR8.out HTT.out ?_)
          | (have hgo := B3; clear hgo
             refine wpList_shr8 rfl (.tmp 28) (.tmp 30) rfl rfl rfl HSH.out HRL.out HXL.out ?_)
          | (have hgo := B3; clear hgo
             refine wpList_and1 rfl (.tmp 31) (.const (.int .u8 1)) rfl rfl rfl HBT.out HYL.out ?_))
        have B4 := B3.drew
        replace r_t6 := World.rowIs.drew r_t6
        replace r_t7 := World.rowIs.drew r_t7
        replace r_t3 := World.rowIs.drew r_t3
        replace r_t4 := World.rowIs.drew r_t4
        replace r_k := World.rowIs.drew r_k
        replace r_t9 := World.rowIs.drew r_t9
        clear B3
        refine wp_region_po (Keep [b_t6, b_t7]) (Keep.refl _) (fun _ _ _ h1 h2 => h1.trans h2) (.rd 0 .done) #[true, false, false, false, false] [1, 2, 3, 4] [some 35, some 36, none, none] [[], [0], [1], [0, 1, 2]] [(0, []), (1, []), (2, [1]), (3, [0, 2, 0]), (4, [2, 3, 0, 1, 2, 3])] 1 (by kernel_rfl) (by kernel_rfl) (by decide) (by kernel_rfl) (by kernel_rfl) (by kernel_rfl) rfl (fun d _ _ _ _ h => by cases d <;> exact h) ?_
        refine lintz_pure 34 (Op.load 54 (Operand.tmp 9)) 54 (.agg (arrOf 8 (rtF (lx3 c1 c2 c3 c4) (lz3 U c1 c2 c3 c4)))) rfl rfl rfl rfl rfl (fun w0 hb => by exact exec_load_as _ _ _ _ (rtF (lx3 c1 c2 c3 c4) (lz3 U c1 c2 c3 c4)) rfl arrR (Keep.row hb r_t9 (cont2 (Ne.symm n_t6_t9) (Ne.symm n_t7_t9))) (by omega) (fun i hi => by rw [Nat.zero_add])) ?_
        simp only [Act.put, List.setIfInBounds_toArray, List.set_cons_zero, List.set_cons_succ]
        refine lintz_leaf ?_
        have HWF : poWf [.val (.agg (arrOf 8 (rtF c3 c4))), .val (.agg (arrOf 8 (rtF (lx2 c3 c4) (lz2 c3 c4)))), .nil, .nil] [⟨b_t6, 54, 8, (rtF c1 c2), 2, (rtF (lx3 c1 c2 c3 c4) (lz3 U c1 c2 c3 c4))⟩, ⟨b_t7, 54, 8, (rtF c3 c4), 3, (rtF (lx2 c3 c4) (lz2 c3 c4))⟩] = true := by kernel_rfl
        refine ⟨JG [.val (.agg (arrOf 8 (rtF c3 c4))), .val (.agg (arrOf 8 (rtF (lx2 c3 c4) (lz2 c3 c4)))), .nil, .nil] [⟨b_t6, 54, 8, (rtF c1 c2), 2, (rtF (lx3 c1 c2 c3 c4) (lz3 U c1 c2 c3 c4))⟩, ⟨b_t7, 54, 8, (rtF c3 c4), 3, (rtF (lx2 c3 c4) (lz2 c3 c4))⟩] _, JG.start (Nat.le_refl _) (po_olds2 r_t6 r_t7), fun m gz wa p az hp hm hmp hcl hdn hE hJ hS hO => ?_, fun gz wa hE hJ => ?_⟩
        · rcases (show p = 0 ∨ p = 1 ∨ p = 2 ∨ p = 3 by have h9 : p < 4 := hp; omega) with rfl | rfl | rfl | rfl
          · have ro : wa.rowIs b_t7 54 8 (rtF c3 c4) := hJ.old0 1 (show 1 < 2 by decide) (po_notyet (s := 3) hcl hmp (by rw [hm]; exact hp) (by decide))
            exact po_run 35 (Op.load 54 (Operand.tmp 7)) _ HWF hJ rfl hE rfl rfl rfl rfl rfl rfl (exec_load_as _ _ _ _ (rtF c3 c4) (hO 7 rfl) arrR ro (by omega) (fun i hi => by rw [Nat.zero_add]))
          · have e35 := (hS 0 35 rfl (hdn 0 (by decide)) (Nat.le_of_ble_eq_true rfl)).trans (hJ.says (hdn 0 (by decide)) rfl)
            exact po_call 36 34 #[Operand.tmp 35] #[54] _ HWF hJ rfl hE (rdouble_any c3 c4 _ Hc3.out Hc4.out) rfl rfl rfl rfl rfl Try.func34 (by kernel_rfl) (by kernel_rfl) (by simp only [List.map_toArray, List.map_cons, List.map_nil, eval_const, eval_func, e35] <;> rfl)
          · have e34 : az.eval (.tmp 34) = .agg (arrOf 8 (rtF (lx3 c1 c2 c3 c4) (lz3 U c1 c2 c3 c4))) := hO 34 rfl
            exact po_storeOld 0 (.tmp 6) (.tmp 34) 54 b_t6 8 _ (by rw [hm]; exact hp) hmp hJ rfl (show 0 < 2 by decide) rfl rfl rfl rfl rfl (World.rowIs.lt r_t6) (by simp) (by kernel_rfl) (po_ne2a (show 3 ≠ 2 by decide) (Ne.symm n_t6_t7)) hE rfl rfl rfl rfl rfl (hO 6 rfl) e34 arrR (fun j _ => rt_one _ _ j)
          · have e36 := (hS 1 36 rfl (hdn 1 (by decide)) (Nat.le_of_ble_eq_true rfl)).trans (hJ.says (hdn 1 (by decide)) rfl)
            exact po_storeOld 1 (.tmp 7) (.tmp 36) 54 b_t7 8 _ (by rw [hm]; exact hp) hmp hJ rfl (show 1 < 2 by decide) rfl rfl rfl rfl rfl (World.rowIs.lt r_t7) (by simp) (by kernel_rfl) (po_ne2b (show 2 ≠ 3 by decide) n_t6_t7) hE rfl rfl rfl rfl rfl (hO 7 rfl) e36 arrR (fun j _ => rt_one _ _ j)
        · have q0 := hJ.told 0 (by decide) rfl
          have q1 := hJ.told 1 (by decide) rfl
          show PoEnd _ (Act.put (Act.put (Act.put (Act.put _ (some 35) (gz 0)) (some 36) (gz 1)) none (gz 2)) none (gz 3)) wa
          rw [q0, q1]
          simp only [Act.put, List.setIfInBounds_toArray, List.set_cons_zero, List.set_cons_succ]
          refine po_end ?_
          replace r_t6 : wa.rowIs b_t6 54 8 (rtF (lx3 c1 c2 c3 c4) (lz3 U c1 c2 c3 c4)) := hJ.old 0 (show 0 < 2 by decide) (show 2 < 4 by decide)
          replace r_t7 : wa.rowIs b_t7 54 8 (rtF (lx2 c3 c4) (lz2 c3 c4)) := hJ.old 1 (show 1 < 2 by decide) (show 3 < 4 by decide)
          replace r_t3 := Keep.row hE r_t3 (cont2 n_t3_t6 n_t3_t7)
          replace r_t4 := Keep.row hE r_t4 (cont2 n_t4_t6 n_t4_t7)
          replace r_k := Keep.row hE r_k (cont2 n_k_t6 n_k_t7)
          replace r_t9 := Keep.row hE r_t9 (cont2 (Ne.symm n_t6_t9) (Ne.symm n_t7_t9))
          have B5 := hE.below B4 (HGS.out _ B4) (keep_all2 l_t6 l_t7)
          clear B4 hE hJ HWF q0 q1
          go_wp2
          go_roundw
          case rel =>
            exact ⟨i + 1, _, _, _, _, by omega, cliS_one U K i HBI.out hcl.out, by rw [HTI.out]; go_num, r_t6, r_t7, r_t3, r_t4, r_k, B5⟩
          case measure => (simp [intOf]; try omega)
    · obtain rfl : i = 255 := by omega
      have B0 := B
      clear B
      have HE : Hid (T = mulP c1 (invP c2)) := Lib.hid (by rw [hT.out, cliS_ladder, hcl.out])
      go_wp2_with (first
        | (have hgo := B0; clear hgo
           refine wpList_load_as rfl 54 (.tmp 6) rfl 8 (rtF c1 c2) arrR r_t6 rfl (by omega) (fun i hi => by rw [Nat.zero_add]) ?_)
        | (have hgo := B0; clear hgo
           go_at_call 35
           refine (ru_any c1 c2 _ Hc1.out Hc2.out).mono ?_
           rintro e w502 ⟨rfl, kk⟩
           replace r_t6 := World.rowIs.of_block r_t6 (kk.block _ (World.rowIs.lt r_t6))
           replace r_t7 := World.rowIs.of_block r_t7 (kk.block _ (World.rowIs.lt r_t7))
           replace r_t3 := World.rowIs.of_block r_t3 (kk.block _ (World.rowIs.lt r_t3))
           replace r_t4 := World.rowIs.of_block r_t4 (kk.block _ (World.rowIs.lt r_t4))
           replace r_k := World.rowIs.of_block r_k (kk.block _ (World.rowIs.lt r_k))
           have B1 := B0.trans (kk.mono (HGS.out _ B0))
           clear B0 kk)
        | (have hgo := B1; clear hgo
           refine wpList_store_as rfl 42 (.tmp 4) (.tmp 41) rfl 4 (ewF (mulP c1 (invP c2))) arrE r_t4 rfl rfl (by omega) (fun _ _ => rfl) (fun i hi => putN_whole hi) ?_
           intro w503 q gk
           replace r_t6 := gb_rowIs r_t6 gk (Ne.symm n_t4_t6)
           replace r_t7 := gb_rowIs r_t7 gk (Ne.symm n_t4_t7)
           replace r_t3 := gb_rowIs r_t3 gk n_t3_t4
           replace r_k := gb_rowIs r_k gk n_k_t4
           replace r_t4 := q
           have B2 := B1.grown gk (HGS.out _ B1) (by intro k hk; cases hk; exact l_t4)
           clear B1 gk q))
      exact ret_cell_as _ rfl arrE r_t4 rfl (by omega) (fun _ _ => rfl) rfl ⟨by rw [HE.out], B2⟩
end Go.Proofs.Ytnoppemclfnlcaa
