/- Texts joined: what they are for stands ahead of each. -/
import Derived.Test.YtphkmaihnbhgoaaMM3
set_option linter.unusedSimpArgs false
set_option linter.unusedVariables false

/- The document's points: the point that bytes stand for, where y is below p. -/
namespace Go.Proofs.Ytphkmaihnbhgoaa
open Go.RowKit Go.Deep
set_option linter.unusedSimpArgs false
set_option linter.unusedVariables false

set_option maxHeartbeats 4000000 in
set_option maxRecDepth 10000 in
theorem refDecode_3 (v0 : Value) (l0 : List UInt8) (w : World) (h0 : Bs w v0 l0) (hl : l0.length = 32) (hYl : numL l0 32 % top < p25) (hx : decX (numL l0 32 % top) = none) : Calls Try.prog 11 #[v0] w fun e w' => e = .returned (.tuple #[.agg (arrOf 48 (ptF 0 1 1)), .int .i64 12]) ∧ Below w.heap.size w w' := by
  have HYL := Lib.hid hYl
  have HX_ := Lib.hid hx
  clear hYl hx
  obtain ⟨gb, off, c0, rfl, y0, z0, hgb, hcells⟩ := h0.open_n hl (by decide)
  have HL := Lib.hid hl
  have HF0 := Lib.hid h0
  obtain ⟨q, hq⟩ := nat_var ((l0.getD 31 0).toNat)
  have hql : q < 256 := by rw [hq]; exact UInt8.toNat_lt _
  have a1 := and127N q hql
  obtain ⟨u, hu⟩ := nat_var (q % 128)
  rw [← hu] at a1
  have a2 : (q : Int) % 128 = (u : Int) := by omega
  have HUL : Hid (u < 256) := Lib.hid (by omega)
  have HQL := Lib.hid hql
  have HSG : Hid (numL l0 32 / top = q / 128) := Lib.hid (by rw [(numL_cut l0 hl).2, ← hq])
  have HCB : Hid (cutB l0 = l0.set 31 (UInt8.ofNat u)) := Lib.hid (by rw [hu, hq]; rfl)
  obtain ⟨CL, hCL⟩ : ∃ C, C = cutB l0 := ⟨_, rfl⟩
  have HCL := Lib.hid hCL
  rw [← hCL] at HCB
  have HQ : Hid (∀ h : 31 < l0.length, (l0[31]'h).toNat = q) := Lib.hid fun h => by rw [hq, List.getD_eq_getElem?_getD, List.getElem?_eq_getElem h]; rfl
  have HC31 : Hid (∀ W, Below w.heap.size w W → W.cell? ⟨gb, off + 31, none⟩ = some (.int .u8 (q : Int))) := Lib.hid fun W hW => (bs_cell (h0.below hW (Nat.le_refl _)) 31 (by rw [hl]; decide)).trans (by rw [HQ.out])
  clear hCL hq hql hu hcells h0 hl
  have hx := HX_.out
  clear HX_
  obtain ⟨Y, hYv⟩ := nat_var (numL l0 32 % top)
  have HYv : Hid (numL l0 32 % top = Y) := Lib.hid hYv.symm
  have HY : Hid (Y < p25) := Lib.hid (by rw [hYv]; exact HYL.out)
  rw [← hYv] at hx
  have HRT := Lib.hid fun w => refRoot_none (decS Y) w (decS_lt Y) hx
  unfold decS at HRT
  obtain ⟨sg, hsg⟩ := nat_var (q / 128)
  have HSH := Lib.hid hsg
  have hsg2 : sg < 2 := by rw [hsg]; exact Nat.div_lt_of_lt_mul HQL.out
  clear hsg
  clear hx hYv HSG HYL
  have Bw0 := Below.refl w.heap.size w
  have HGS : Hid (∀ wq : World, Below w.heap.size w wq → w.heap.size ≤ wq.heap.size) := Lib.hid fun wq h => h.size
  go_enter Try.func11, Try.ntmps11
  go_wp2_with (first
    | (have hgo := Bw0; clear hgo
       refine wpList_alloc_row rfl 36 rfl 48 (u64f fun _ => 0) zeroPt ?_
       intro b_t2 w1 lk r_t2 kk
       have l_t2 := Nat.le_trans (HGS.out _ Bw0) lk
       have Bw1 := Bw0.trans (kk.mono (HGS.out _ Bw0))
       clear Bw0 kk lk
       have O1 := Owns.empty w1
       have k1 := (Below.refl w1.heap.size w1).alloc (Nat.le_refl _) (.cells #[] 5)
       have F1 := (HF0.out.below Bw1 (Nat.le_refl _)).below k1 (Nat.le_refl _))
    | (have hgo := Bw1; clear hgo
       refine wpList_app rfl (.tmp 17) (.tmp 18) rfl w1.heap.size _ _ [] l0 O1 F1 rfl rfl (by simp [HL.out]) (by simp) ?_
       intro v2 w2 ho hgr
       obtain ⟨g, cap, hv, hg, hgs, _, _⟩ := (show Owns w2 w1.heap.size v2 l0 from ho).open_cons (by rw [HL.out]; decide)
       rw [HL.out] at hv
       subst hv
       have o2 : Owns w2 w1.heap.size (.slice (some ⟨g, 0, none⟩) 32 cap) l0 := ho
       have hcap := owns_cap o2
       have C2 := k1.grown hgr (by simp) (fun k hk => by simp [Value.ownBlock] at hk; omega)
       clear O1 F1 k1 ho hgr)
    | (refine wpList_load_byte rfl (.tmp 22) rfl 31 q o2 HL.out.symm (by rw [HL.out]; decide) rfl (HQ.out _) ?_)
    | (refine wpList_store_byte rfl (.tmp 25) (.tmp 24) rfl 31 u o2 HL.out.symm hcap (by rw [HL.out]; decide) rfl rfl HUL.out ?_
       intro w3 o3 g3
       have C3 := C2.grown g3 C2.size (by intro k hk; cases hk; exact hg)
       have Bw2 := Bw1.trans (C3.mono (HGS.out _ Bw1))
       replace r_t2 := World.rowIs.of_block r_t2 (C3.block _ (World.rowIs.lt r_t2))
       rw [← HCB.out] at o3
       have f_c := o3.bs
       clear o2 C2 C3 Bw1 g3 o3)
    | (have hgo := Bw2; clear hgo
       go_at_call 43
       refine (refStrict_cut _ l0 CL Y _ f_c HCL.out HL.out HYv.out HY.out).mono ?_
       rintro e w12 ⟨rfl, kk⟩
       replace r_t2 := World.rowIs.of_block r_t2 (kk.block _ (World.rowIs.lt r_t2))
       have Bw3 := Bw2.trans (kk.mono (HGS.out _ Bw2))
       clear Bw2 kk)
    | (have hgo := Bw3; clear hgo
       refine wpList_alloc_row rfl 34 rfl 16 (u64f fun _ => 0) zeroFe ?_
       intro b_t5 w16 lk r_t5 kk
       have n_t2_t5 : b_t2 ≠ b_t5 := Nat.ne_of_lt (Nat.lt_of_lt_of_le (World.rowIs.lt r_t2) lk)
       have l_t5 := Nat.le_trans (HGS.out _ Bw3) lk
       replace r_t2 := World.rowIs.of_block r_t2 (kk.block _ (World.rowIs.lt r_t2))
       have Bw4 := Bw3.trans (kk.mono (HGS.out _ Bw3))
       clear Bw3 kk lk)
    | (have hgo := Bw4; clear hgo
       refine wpList_store_as rfl 34 (.tmp 5) (.tmp 29) rfl 16 (feF Y) arrFe r_t5 rfl rfl (by omega) (fun _ _ => rfl) (fun i hi => putN_whole hi) ?_
       intro w17 q gk
       replace r_t2 := gb_rowIs r_t2 gk n_t2_t5
       replace r_t5 := q
       have Bw5 := Bw4.grown gk (HGS.out _ Bw4) (by intro k hk; cases hk; exact l_t5)
       clear Bw4 gk q)
    | (have hgo := Bw5; clear hgo
       refine wpList_load_as rfl 34 (.tmp 5) rfl 16 (feF Y) arrFe r_t5 rfl (by omega) (fun i hi => by rw [Nat.zero_add]) ?_
       have Bw6 := Bw5
       clear Bw5)
    | (have hgo := Bw6; clear hgo
       refine wpList_load_as rfl 34 (.tmp 5) rfl 16 (feF Y) arrFe r_t5 rfl (by omega) (fun i hi => by rw [Nat.zero_add]) ?_
       have Bw7 := Bw6
       clear Bw6)
    | (have hgo := Bw7; clear hgo
       go_at_call 44
       refine (refMul5_any Y Y _ HY.out HY.out).mono ?_
       rintro e w21 ⟨rfl, kk⟩
       replace r_t2 := World.rowIs.of_block r_t2 (kk.block _ (World.rowIs.lt r_t2))
       replace r_t5 := World.rowIs.of_block r_t5 (kk.block _ (World.rowIs.lt r_t5))
       have Bw8 := Bw7.trans (kk.mono (HGS.out _ Bw7))
       clear Bw7 kk)
    | (have hgo := Bw8; clear hgo
       refine wpList_alloc_row rfl 34 rfl 16 (u64f fun _ => 0) zeroFe ?_
       intro b_t7 w22 lk r_t7 kk
       have n_t2_t7 : b_t2 ≠ b_t7 := Nat.ne_of_lt (Nat.lt_of_lt_of_le (World.rowIs.lt r_t2) lk)
       have n_t5_t7 : b_t5 ≠ b_t7 := Nat.ne_of_lt (Nat.lt_of_lt_of_le (World.rowIs.lt r_t5) lk)
       have l_t7 := Nat.le_trans (HGS.out _ Bw8) lk
       replace r_t2 := World.rowIs.of_block r_t2 (kk.block _ (World.rowIs.lt r_t2))
       replace r_t5 := World.rowIs.of_block r_t5 (kk.block _ (World.rowIs.lt r_t5))
       have Bw9 := Bw8.trans (kk.mono (HGS.out _ Bw8))
       clear Bw8 kk lk)
    | (have hgo := Bw9; clear hgo
       refine wpList_store_as rfl 34 (.tmp 7) (.tmp 36) rfl 16 (feF (mulP Y Y)) arrFe r_t7 rfl rfl (by omega) (fun _ _ => rfl) (fun i hi => putN_whole hi) ?_
       intro w23 q gk
       replace r_t2 := gb_rowIs r_t2 gk n_t2_t7
       replace r_t5 := gb_rowIs r_t5 gk n_t5_t7
       replace r_t7 := q
       have Bw10 := Bw9.grown gk (HGS.out _ Bw9) (by intro k hk; cases hk; exact l_t7)
       clear Bw9 gk q))
  have Bw11 := Bw10.drew
  replace r_t2 := World.rowIs.drew r_t2
  replace r_t5 := World.rowIs.drew r_t5
  replace r_t7 := World.rowIs.drew r_t7
  clear Bw10
  refine wp_region_po (Keep []) (Keep.refl _) (fun _ _ _ h1 h2 => h1.trans h2) (.rd 0 .done) #[true, false, false, false, false] [1, 2, 3, 4] [some 38, some 39, some 8, none] [[], [0], [], [0, 1, 2]] [(0, []), (1, []), (2, [0, 1, 1]), (3, []), (4, [3, 2, 2, 0, 1, 2, 3])] 1 (by as_aux_lemma => kernel_rfl) (by as_aux_lemma => kernel_rfl) (by decide) (by as_aux_lemma => kernel_rfl) (by as_aux_lemma => kernel_rfl) (by as_aux_lemma => kernel_rfl) rfl (fun d _ _ _ _ h => by cases d <;> exact h) ?_
  refine lintz_pure 37 (Op.load 34 (Operand.tmp 7)) 34 (.agg (arrOf 16 (feF (mulP Y Y)))) rfl rfl rfl rfl rfl (fun w0 hb => by exact exec_load_as _ _ _ _ (feF (mulP Y Y)) rfl arrFe (Keep.row hb r_t7 rfl) (by omega) (fun i hi => by rw [Nat.zero_add])) ?_
  simp only [Act.put, List.setIfInBounds_toArray, List.set_cons_zero, List.set_cons_succ]
  refine lintz_leaf ?_
  have HWF : poWf [.val (.agg (arrOf 16 (feF 1))), .val (.agg (arrOf 16 (feF (subP p25 (mulP Y Y) 1)))), .row 34 16 (u64f fun _ => 0) 3 (feF (subP p25 (mulP Y Y) 1)), .nil] [] = true := by as_aux_lemma => kernel_rfl
  refine ⟨JG [.val (.agg (arrOf 16 (feF 1))), .val (.agg (arrOf 16 (feF (subP p25 (mulP Y Y) 1)))), .row 34 16 (u64f fun _ => 0) 3 (feF (subP p25 (mulP Y Y) 1)), .nil] [] _, JG.start (Nat.le_refl _) (fun i hi => absurd hi (Nat.not_lt_zero _)), fun m gz wa p az hp hm hmp hcl hdn hE hJ hS hO => ?_, fun gz wa hE hJ => ?_⟩
  · rcases (show p = 0 ∨ p = 1 ∨ p = 2 ∨ p = 3 by have h9 : p < 4 := hp; omega) with rfl | rfl | rfl | rfl
    · exact po_call 38 46 #[Operand.const (Value.int IntKind.u64 1)] #[24] _ HWF hJ rfl hE (refSmall_any 1 _ (by decide)) rfl rfl rfl rfl rfl Try.func46 (by kernel_rfl) (by kernel_rfl) (by simp only [List.map_toArray, List.map_cons, List.map_nil, eval_const, eval_func] <;> rfl)
    · have e37 : az.eval (.tmp 37) = .agg (arrOf 16 (feF (mulP Y Y))) := hO 37 rfl
      have e38 := (hS 0 38 rfl (hdn 0 (by decide)) (Nat.le_of_ble_eq_true rfl)).trans (hJ.says (hdn 0 (by decide)) rfl)
      exact po_call 39 45 #[Operand.tmp 37, Operand.tmp 38] #[34, 34] _ HWF hJ rfl hE (refSub_any (mulP Y Y) 1 _ (mulP_lt _ _) (by decide +kernel)) rfl rfl rfl rfl rfl Try.func45 (by kernel_rfl) (by kernel_rfl) (by simp only [List.map_toArray, List.map_cons, List.map_nil, eval_const, eval_func, e37, e38] <;> rfl)
    · exact po_alloc 8 _ 34 16 (u64f fun _ => 0) _ _ HWF hJ rfl (po_notyet hcl hmp (by rw [hm]; exact hp) (by decide)) hE rfl rfl rfl rfl rfl rfl zeroFe
    · have e39 := (hS 1 39 rfl (hdn 1 (by decide)) (Nat.le_of_ble_eq_true rfl)).trans (hJ.says (hdn 1 (by decide)) rfl)
      exact po_storeRow 2 (.tmp 8) (.tmp 39) 34 16 _ _ (by rw [hm]; exact hp) hmp hJ rfl rfl (hdn 2 (by decide)) (by kernel_rfl) (fun i hi => absurd hi (Nat.not_lt_zero _)) hE rfl rfl rfl rfl rfl (hS 2 8 rfl (hdn 2 (by decide)) (Nat.le_of_ble_eq_true rfl)) e39 arrFe (fun _ _ => rfl)
  · have q0 := hJ.told 0 (by decide) rfl
    have q1 := hJ.told 1 (by decide) rfl
    obtain ⟨b_t8, p_t8, lk_t8, r_t8, d_t8⟩ := hJ.row 2 (by decide) rfl (by decide)
    rw [putO_true _ _ _ _ _ rfl]
    simp only [putA, Nat.zero_add, Nat.reduceAdd]
    rw [q0, q1, p_t8]
    simp only [Act.put, List.setIfInBounds_toArray, List.set_cons_zero, List.set_cons_succ]
    refine po_end ?_
    have n_t2_t8 : b_t2 ≠ b_t8 := Nat.ne_of_lt (Nat.lt_of_lt_of_le (World.rowIs.lt r_t2) lk_t8)
    have n_t5_t8 : b_t5 ≠ b_t8 := Nat.ne_of_lt (Nat.lt_of_lt_of_le (World.rowIs.lt r_t5) lk_t8)
    have n_t7_t8 : b_t7 ≠ b_t8 := Nat.ne_of_lt (Nat.lt_of_lt_of_le (World.rowIs.lt r_t7) lk_t8)
    have l_t8 := Nat.le_trans (HGS.out _ Bw11) lk_t8
    replace r_t2 := Keep.row hE r_t2 rfl
    replace r_t5 := Keep.row hE r_t5 rfl
    replace r_t7 := Keep.row hE r_t7 rfl
    have Bw12 := hE.below Bw11 (HGS.out _ Bw11) rfl
    clear Bw11 hE hJ HWF q0 q1 p_t8 lk_t8 d_t8
    go_wp2
    have Bw13 := Bw12.drew
    replace r_t2 := World.rowIs.drew r_t2
    replace r_t5 := World.rowIs.drew r_t5
    replace r_t7 := World.rowIs.drew r_t7
    replace r_t8 := World.rowIs.drew r_t8
    clear Bw12
    refine wp_region_po (Keep []) (Keep.refl _) (fun _ _ _ h1 h2 => h1.trans h2) (.rd 1 .done) #[false, true, false, false, false, false, false] [0, 2, 3, 4, 5, 6] [some 40, some 42, some 43, some 44, some 9, none] [[], [0], [1], [1, 2], [], [0, 1, 2, 3, 4]] [(0, []), (1, []), (2, [0, 1, 0]), (3, [2]), (4, [2, 3, 3]), (5, []), (6, [5, 4, 4, 0, 1, 2, 3, 4, 5])] 2 (by as_aux_lemma => kernel_rfl) (by as_aux_lemma => kernel_rfl) (by decide) (by as_aux_lemma => kernel_rfl) (by as_aux_lemma => kernel_rfl) (by as_aux_lemma => kernel_rfl) rfl (fun d _ _ _ _ h => by cases d <;> exact h) ?_
    refine lintz_pure 41 (Op.load 34 (Operand.tmp 7)) 34 (.agg (arrOf 16 (feF (mulP Y Y)))) rfl rfl rfl rfl rfl (fun w0 hb => by exact exec_load_as _ _ _ _ (feF (mulP Y Y)) rfl arrFe (Keep.row hb r_t7 rfl) (by omega) (fun i hi => by rw [Nat.zero_add])) ?_
    simp only [Act.put, List.setIfInBounds_toArray, List.set_cons_zero, List.set_cons_succ]
    refine lintz_leaf ?_
    have HWF : poWf [.val (.agg (arrOf 16 (feF dP))), .val (.agg (arrOf 16 (feF (mulP dP (mulP Y Y))))), .val (.agg (arrOf 16 (feF 1))), .val (.agg (arrOf 16 (feF (addP (mulP dP (mulP Y Y)) 1)))), .row 34 16 (u64f fun _ => 0) 5 (feF (addP (mulP dP (mulP Y Y)) 1)), .nil] [] = true := by as_aux_lemma => kernel_rfl
    refine ⟨JG [.val (.agg (arrOf 16 (feF dP))), .val (.agg (arrOf 16 (feF (mulP dP (mulP Y Y))))), .val (.agg (arrOf 16 (feF 1))), .val (.agg (arrOf 16 (feF (addP (mulP dP (mulP Y Y)) 1)))), .row 34 16 (u64f fun _ => 0) 5 (feF (addP (mulP dP (mulP Y Y)) 1)), .nil] [] _, JG.start (Nat.le_refl _) (fun i hi => absurd hi (Nat.not_lt_zero _)), fun m gz wa p az hp hm hmp hcl hdn hE hJ hS hO => ?_, fun gz wa hE hJ => ?_⟩
    · rcases (show p = 0 ∨ p = 1 ∨ p = 2 ∨ p = 3 ∨ p = 4 ∨ p = 5 by have h9 : p < 6 := hp; omega) with rfl | rfl | rfl | rfl | rfl | rfl
      · exact po_call 40 47 #[] #[] _ HWF hJ rfl hE (curve_any _) rfl rfl rfl rfl rfl Try.func47 (by kernel_rfl) (by kernel_rfl) (by simp only [List.map_toArray, List.map_cons, List.map_nil, eval_const, eval_func] <;> rfl)
      · have e40 := (hS 0 40 rfl (hdn 0 (by decide)) (Nat.le_of_ble_eq_true rfl)).trans (hJ.says (hdn 0 (by decide)) rfl)
        have e41 : az.eval (.tmp 41) = .agg (arrOf 16 (feF (mulP Y Y))) := hO 41 rfl
        exact po_call 42 44 #[Operand.tmp 40, Operand.tmp 41] #[34, 34] _ HWF hJ rfl hE (refMul5_any dP (mulP Y Y) _ dP_lt (mulP_lt _ _)) rfl rfl rfl rfl rfl Try.func44 (by kernel_rfl) (by kernel_rfl) (by simp only [List.map_toArray, List.map_cons, List.map_nil, eval_const, eval_func, e40, e41] <;> rfl)
      · exact po_call 43 46 #[Operand.const (Value.int IntKind.u64 1)] #[24] _ HWF hJ rfl hE (refSmall_any 1 _ (by decide)) rfl rfl rfl rfl rfl Try.func46 (by kernel_rfl) (by kernel_rfl) (by simp only [List.map_toArray, List.map_cons, List.map_nil, eval_const, eval_func] <;> rfl)
      · have e42 := (hS 1 42 rfl (hdn 1 (by decide)) (Nat.le_of_ble_eq_true rfl)).trans (hJ.says (hdn 1 (by decide)) rfl)
        have e43 := (hS 2 43 rfl (hdn 2 (by decide)) (Nat.le_of_ble_eq_true rfl)).trans (hJ.says (hdn 2 (by decide)) rfl)
        exact po_call 44 48 #[Operand.tmp 42, Operand.tmp 43] #[34, 34] _ HWF hJ rfl hE (refAdd5_any (mulP dP (mulP Y Y)) 1 _ (mulP_lt _ _) (by decide +kernel)) rfl rfl rfl rfl rfl Try.func48 (by kernel_rfl) (by kernel_rfl) (by simp only [List.map_toArray, List.map_cons, List.map_nil, eval_const, eval_func, e42, e43] <;> rfl)
      · exact po_alloc 9 _ 34 16 (u64f fun _ => 0) _ _ HWF hJ rfl (po_notyet hcl hmp (by rw [hm]; exact hp) (by decide)) hE rfl rfl rfl rfl rfl rfl zeroFe
      · have e44 := (hS 3 44 rfl (hdn 3 (by decide)) (Nat.le_of_ble_eq_true rfl)).trans (hJ.says (hdn 3 (by decide)) rfl)
        exact po_storeRow 4 (.tmp 9) (.tmp 44) 34 16 _ _ (by rw [hm]; exact hp) hmp hJ rfl rfl (hdn 4 (by decide)) (by kernel_rfl) (fun i hi => absurd hi (Nat.not_lt_zero _)) hE rfl rfl rfl rfl rfl (hS 4 9 rfl (hdn 4 (by decide)) (Nat.le_of_ble_eq_true rfl)) e44 arrFe (fun _ _ => rfl)
    · have q0 := hJ.told 0 (by decide) rfl
      have q1 := hJ.told 1 (by decide) rfl
      have q2 := hJ.told 2 (by decide) rfl
      have q3 := hJ.told 3 (by decide) rfl
      obtain ⟨b_t9, p_t9, lk_t9, r_t9, d_t9⟩ := hJ.row 4 (by decide) rfl (by decide)
      rw [putO_true _ _ _ _ _ rfl]
      simp only [putA, Nat.zero_add, Nat.reduceAdd]
      rw [q0, q1, q2, q3, p_t9]
      simp only [Act.put, List.setIfInBounds_toArray, List.set_cons_zero, List.set_cons_succ]
      refine po_end ?_
      have n_t2_t9 : b_t2 ≠ b_t9 := Nat.ne_of_lt (Nat.lt_of_lt_of_le (World.rowIs.lt r_t2) lk_t9)
      have n_t5_t9 : b_t5 ≠ b_t9 := Nat.ne_of_lt (Nat.lt_of_lt_of_le (World.rowIs.lt r_t5) lk_t9)
      have n_t7_t9 : b_t7 ≠ b_t9 := Nat.ne_of_lt (Nat.lt_of_lt_of_le (World.rowIs.lt r_t7) lk_t9)
      have n_t8_t9 : b_t8 ≠ b_t9 := Nat.ne_of_lt (Nat.lt_of_lt_of_le (World.rowIs.lt r_t8) lk_t9)
      have l_t9 := Nat.le_trans (HGS.out _ Bw13) lk_t9
      replace r_t2 := Keep.row hE r_t2 rfl
      replace r_t5 := Keep.row hE r_t5 rfl
      replace r_t7 := Keep.row hE r_t7 rfl
      replace r_t8 := Keep.row hE r_t8 rfl
      have Bw14 := hE.below Bw13 (HGS.out _ Bw13) rfl
      clear Bw13 hE hJ HWF q0 q1 q2 q3 p_t9 lk_t9 d_t9
      go_wp2
      have Bw15 := Bw14.drew
      replace r_t2 := World.rowIs.drew r_t2
      replace r_t5 := World.rowIs.drew r_t5
      replace r_t7 := World.rowIs.drew r_t7
      replace r_t8 := World.rowIs.drew r_t8
      replace r_t9 := World.rowIs.drew r_t9
      clear Bw14
      refine wp_region_po (Keep []) (Keep.refl _) (fun _ _ _ h1 h2 => h1.trans h2) (.rd 0 (.rd 1 .done)) #[true, true, false, false, false, false, false, false, false, false, false] [2, 3, 4, 5, 6, 7, 8, 9, 10] [some 48, some 49, some 50, some 45, some 51, some 52, some 10, none, some 11] [[], [0], [1], [2], [3], [3], [], [0, 1, 2, 3, 4, 6], [0, 1, 2, 3, 4, 5, 6, 7]] [(0, []), (1, []), (2, [1]), (3, [0, 2, 2]), (4, [3, 3]), (5, [4]), (6, [5]), (7, [5]), (8, []), (9, [8, 6, 4, 0, 1, 2, 3, 4, 5, 6, 8]), (10, [7, 9, 0, 1, 2, 3, 4, 5, 6, 7, 8, 9])] 3 (by as_aux_lemma => kernel_rfl) (by as_aux_lemma => kernel_rfl) (by decide) (by as_aux_lemma => kernel_rfl) (by as_aux_lemma => kernel_rfl) (by as_aux_lemma => kernel_rfl) rfl (fun d _ _ _ _ h => by cases d <;> exact h) ?_
      refine lintz_pure 46 (Op.load 34 (Operand.tmp 8)) 34 (.agg (arrOf 16 (feF (subP p25 (mulP Y Y) 1)))) rfl rfl rfl rfl rfl (fun w0 hb => by exact exec_load_as _ _ _ _ (feF (subP p25 (mulP Y Y) 1)) rfl arrFe (Keep.row hb r_t8 rfl) (by omega) (fun i hi => by rw [Nat.zero_add])) ?_
      simp only [Act.put, List.setIfInBounds_toArray, List.set_cons_zero, List.set_cons_succ]
      refine lintz_pure 47 (Op.load 34 (Operand.tmp 9)) 34 (.agg (arrOf 16 (feF (addP (mulP dP (mulP Y Y)) 1)))) rfl rfl rfl rfl rfl (fun w0 hb => by exact exec_load_as _ _ _ _ (feF (addP (mulP dP (mulP Y Y)) 1)) rfl arrFe (Keep.row hb r_t9 rfl) (by omega) (fun i hi => by rw [Nat.zero_add])) ?_
      simp only [Act.put, List.setIfInBounds_toArray, List.set_cons_zero, List.set_cons_succ]
      refine lintz_leaf ?_
      have HWF : poWf [.val (.agg (arrOf 16 (feF (invP (addP (mulP dP (mulP Y Y)) 1))))), .val (.agg (arrOf 16 (feF (mulP (subP p25 (mulP Y Y) 1) (invP (addP (mulP dP (mulP Y Y)) 1)))))), .val (.tuple #[.agg (arrOf 16 (feF 0)), .int .i64 7]), .val (.tuple #[.agg (arrOf 16 (feF 0)), .int .i64 7]), .val (.agg (arrOf 16 (feF 0))), .val (.int .i64 7), .row 34 16 (u64f fun _ => 0) 7 (feF 0), .nil, .val (.int .i64 7)] [] = true := by as_aux_lemma => kernel_rfl
      refine ⟨JG [.val (.agg (arrOf 16 (feF (invP (addP (mulP dP (mulP Y Y)) 1))))), .val (.agg (arrOf 16 (feF (mulP (subP p25 (mulP Y Y) 1) (invP (addP (mulP dP (mulP Y Y)) 1)))))), .val (.tuple #[.agg (arrOf 16 (feF 0)), .int .i64 7]), .val (.tuple #[.agg (arrOf 16 (feF 0)), .int .i64 7]), .val (.agg (arrOf 16 (feF 0))), .val (.int .i64 7), .row 34 16 (u64f fun _ => 0) 7 (feF 0), .nil, .val (.int .i64 7)] [] _, JG.start (Nat.le_refl _) (fun i hi => absurd hi (Nat.not_lt_zero _)), fun m gz wa p az hp hm hmp hcl hdn hE hJ hS hO => ?_, fun gz wa hE hJ => ?_⟩
      · rcases (show p = 0 ∨ p = 1 ∨ p = 2 ∨ p = 3 ∨ p = 4 ∨ p = 5 ∨ p = 6 ∨ p = 7 ∨ p = 8 by have h9 : p < 9 := hp; omega) with rfl | rfl | rfl | rfl | rfl | rfl | rfl | rfl | rfl
        · have e47 : az.eval (.tmp 47) = .agg (arrOf 16 (feF (addP (mulP dP (mulP Y Y)) 1))) := hO 47 rfl
          exact po_call 48 49 #[Operand.tmp 47] #[34] _ HWF hJ rfl hE (refInv5_any (addP (mulP dP (mulP Y Y)) 1) _ (addP_lt _ _)) rfl rfl rfl rfl rfl Try.func49 (by kernel_rfl) (by kernel_rfl) (by simp only [List.map_toArray, List.map_cons, List.map_nil, eval_const, eval_func, e47] <;> rfl)
        · have e46 : az.eval (.tmp 46) = .agg (arrOf 16 (feF (subP p25 (mulP Y Y) 1))) := hO 46 rfl
          have e48 := (hS 0 48 rfl (hdn 0 (by decide)) (Nat.le_of_ble_eq_true rfl)).trans (hJ.says (hdn 0 (by decide)) rfl)
          exact po_call 49 44 #[Operand.tmp 46, Operand.tmp 48] #[34, 34] _ HWF hJ rfl hE (refMul5_any (subP p25 (mulP Y Y) 1) (invP (addP (mulP dP (mulP Y Y)) 1)) _ (subP_lt _ _) (invP_lt _)) rfl rfl rfl rfl rfl Try.func44 (by kernel_rfl) (by kernel_rfl) (by simp only [List.map_toArray, List.map_cons, List.map_nil, eval_const, eval_func, e46, e48] <;> rfl)
        · have e49 := (hS 1 49 rfl (hdn 1 (by decide)) (Nat.le_of_ble_eq_true rfl)).trans (hJ.says (hdn 1 (by decide)) rfl)
          exact po_call 50 50 #[Operand.tmp 49] #[34] _ HWF hJ rfl hE (HRT.out _) rfl rfl rfl rfl rfl Try.func50 (by kernel_rfl) (by kernel_rfl) (by simp only [List.map_toArray, List.map_cons, List.map_nil, eval_const, eval_func, e49] <;> rfl)
        · have e50 := (hS 2 50 rfl (hdn 2 (by decide)) (Nat.le_of_ble_eq_true rfl)).trans (hJ.says (hdn 2 (by decide)) rfl)
          exact po_run 45 (Op.move (Operand.tmp 50)) _ HWF hJ rfl hE rfl rfl rfl rfl rfl rfl (by first | (simp only [execOp, mkOp, eval_const, e50]; done) | (simp only [execOp, mkOp, eval_const, e50]; go_simp))
        · have e45 := (hS 3 45 rfl (hdn 3 (by decide)) (Nat.le_of_ble_eq_true rfl)).trans (hJ.says (hdn 3 (by decide)) rfl)
          exact po_run 51 (Op.extract (Operand.tmp 45) 0) _ HWF hJ rfl hE rfl rfl rfl rfl rfl rfl (by first | (simp only [execOp, mkOp, eval_const, e45]; done) | (simp only [execOp, mkOp, eval_const, e45]; go_simp))
        · have e45 := (hS 3 45 rfl (hdn 3 (by decide)) (Nat.le_of_ble_eq_true rfl)).trans (hJ.says (hdn 3 (by decide)) rfl)
          exact po_run 52 (Op.extract (Operand.tmp 45) 1) _ HWF hJ rfl hE rfl rfl rfl rfl rfl rfl (by first | (simp only [execOp, mkOp, eval_const, e45]; done) | (simp only [execOp, mkOp, eval_const, e45]; go_simp))
        · exact po_alloc 10 _ 34 16 (u64f fun _ => 0) _ _ HWF hJ rfl (po_notyet hcl hmp (by rw [hm]; exact hp) (by decide)) hE rfl rfl rfl rfl rfl rfl zeroFe
        · have e51 := (hS 4 51 rfl (hdn 4 (by decide)) (Nat.le_of_ble_eq_true rfl)).trans (hJ.says (hdn 4 (by decide)) rfl)
          exact po_storeRow 6 (.tmp 10) (.tmp 51) 34 16 _ _ (by rw [hm]; exact hp) hmp hJ rfl rfl (hdn 6 (by decide)) (by kernel_rfl) (fun i hi => absurd hi (Nat.not_lt_zero _)) hE rfl rfl rfl rfl rfl (hS 6 10 rfl (hdn 6 (by decide)) (Nat.le_of_ble_eq_true rfl)) e51 arrFe (fun _ _ => rfl)
        · have e52 := (hS 5 52 rfl (hdn 5 (by decide)) (Nat.le_of_ble_eq_true rfl)).trans (hJ.says (hdn 5 (by decide)) rfl)
          exact po_run 11 (Op.assign (Operand.tmp 52)) _ HWF hJ rfl hE rfl rfl rfl rfl rfl rfl (by first | (simp only [execOp, mkOp, eval_const, e52]; done) | (simp only [execOp, mkOp, eval_const, e52]; go_simp))
      · have q0 := hJ.told 0 (by decide) rfl
        have q1 := hJ.told 1 (by decide) rfl
        have q2 := hJ.told 2 (by decide) rfl
        have q3 := hJ.told 3 (by decide) rfl
        have q4 := hJ.told 4 (by decide) rfl
        have q5 := hJ.told 5 (by decide) rfl
        obtain ⟨b_t10, p_t10, lk_t10, r_t10, d_t10⟩ := hJ.row 6 (by decide) rfl (by decide)
        have q8 := hJ.told 8 (by decide) rfl
        rw [putO_true _ _ _ _ _ rfl]
        simp only [putA, Nat.zero_add, Nat.reduceAdd]
        rw [q0, q1, q2, q3, q4, q5, p_t10, q8]
        simp only [Act.put, List.setIfInBounds_toArray, List.set_cons_zero, List.set_cons_succ]
        refine po_end ?_
        have n_t2_t10 : b_t2 ≠ b_t10 := Nat.ne_of_lt (Nat.lt_of_lt_of_le (World.rowIs.lt r_t2) lk_t10)
        have n_t5_t10 : b_t5 ≠ b_t10 := Nat.ne_of_lt (Nat.lt_of_lt_of_le (World.rowIs.lt r_t5) lk_t10)
        have n_t7_t10 : b_t7 ≠ b_t10 := Nat.ne_of_lt (Nat.lt_of_lt_of_le (World.rowIs.lt r_t7) lk_t10)
        have n_t8_t10 : b_t8 ≠ b_t10 := Nat.ne_of_lt (Nat.lt_of_lt_of_le (World.rowIs.lt r_t8) lk_t10)
        have n_t9_t10 : b_t9 ≠ b_t10 := Nat.ne_of_lt (Nat.lt_of_lt_of_le (World.rowIs.lt r_t9) lk_t10)
        have l_t10 := Nat.le_trans (HGS.out _ Bw15) lk_t10
        replace r_t2 := Keep.row hE r_t2 rfl
        replace r_t5 := Keep.row hE r_t5 rfl
        replace r_t7 := Keep.row hE r_t7 rfl
        replace r_t8 := Keep.row hE r_t8 rfl
        replace r_t9 := Keep.row hE r_t9 rfl
        have Bw16 := hE.below Bw15 (HGS.out _ Bw15) rfl
        clear Bw15 hE hJ HWF q0 q1 q2 q3 q4 q5 q8 p_t10 lk_t10 d_t10
        rcases (show sg = 0 ∨ sg = 1 by omega) with rfl | rfl
        · skip
          go_wp2_with (first
            | (have hgo := Bw16; clear hgo
               refine wpList_load_cat rfl (.tmp 54) rfl (HC31.out _ Bw16) rfl ?_
               have Bw17 := Bw16
               clear Bw16)
            | (have hgo := Bw17; clear hgo
               refine wpList_shr7 rfl (.tmp 55) (.const (.int .u64 7)) rfl rfl rfl HSH.out HQL.out ?_
               have Bw18 := Bw17
               clear Bw17)
            | (have hgo := Bw18; clear hgo
               go_at_call 42
               refine (refZero_any _).mono ?_
               rintro e w30 ⟨rfl, kk⟩
               replace r_t2 := World.rowIs.of_block r_t2 (kk.block _ (World.rowIs.lt r_t2))
               replace r_t5 := World.rowIs.of_block r_t5 (kk.block _ (World.rowIs.lt r_t5))
               replace r_t7 := World.rowIs.of_block r_t7 (kk.block _ (World.rowIs.lt r_t7))
               replace r_t8 := World.rowIs.of_block r_t8 (kk.block _ (World.rowIs.lt r_t8))
               replace r_t9 := World.rowIs.of_block r_t9 (kk.block _ (World.rowIs.lt r_t9))
               replace r_t10 := World.rowIs.of_block r_t10 (kk.block _ (World.rowIs.lt r_t10))
               have Bw19 := Bw18.trans (kk.mono (HGS.out _ Bw18))
               clear Bw18 kk)
            | (have hgo := Bw19; clear hgo
               refine wpList_store_as rfl 36 (.tmp 2) (.tmp 68) rfl 48 (ptF 0 1 1) arrP r_t2 rfl rfl (by omega) (fun j _ => ptF_one _ _ _ j) (fun i hi => putN_whole hi) ?_
               intro w31 q gk
               replace r_t5 := gb_rowIs r_t5 gk (Ne.symm n_t2_t5)
               replace r_t7 := gb_rowIs r_t7 gk (Ne.symm n_t2_t7)
               replace r_t8 := gb_rowIs r_t8 gk (Ne.symm n_t2_t8)
               replace r_t9 := gb_rowIs r_t9 gk (Ne.symm n_t2_t9)
               replace r_t10 := gb_rowIs r_t10 gk (Ne.symm n_t2_t10)
               replace r_t2 := q
               have Bw20 := Bw19.grown gk (HGS.out _ Bw19) (by intro k hk; cases hk; exact l_t2)
               clear Bw19 gk q))
          exact ret_cell_as_tmp _ rfl arrP r_t2 rfl rfl (by omega) (fun _ _ => rfl) rfl ⟨rfl, Bw20⟩
        · skip
          go_wp2_with (first
            | (have hgo := Bw16; clear hgo
               refine wpList_load_cat rfl (.tmp 54) rfl (HC31.out _ Bw16) rfl ?_
               have Bw17 := Bw16
               clear Bw16)
            | (have hgo := Bw17; clear hgo
               refine wpList_shr7 rfl (.tmp 55) (.const (.int .u64 7)) rfl rfl rfl HSH.out HQL.out ?_
               have Bw18 := Bw17
               clear Bw17)
            | (have hgo := Bw18; clear hgo
               go_at_call 42
               refine (refZero_any _).mono ?_
               rintro e w30 ⟨rfl, kk⟩
               replace r_t2 := World.rowIs.of_block r_t2 (kk.block _ (World.rowIs.lt r_t2))
               replace r_t5 := World.rowIs.of_block r_t5 (kk.block _ (World.rowIs.lt r_t5))
               replace r_t7 := World.rowIs.of_block r_t7 (kk.block _ (World.rowIs.lt r_t7))
               replace r_t8 := World.rowIs.of_block r_t8 (kk.block _ (World.rowIs.lt r_t8))
               replace r_t9 := World.rowIs.of_block r_t9 (kk.block _ (World.rowIs.lt r_t9))
               replace r_t10 := World.rowIs.of_block r_t10 (kk.block _ (World.rowIs.lt r_t10))
               have Bw19 := Bw18.trans (kk.mono (HGS.out _ Bw18))
               clear Bw18 kk)
            | (have hgo := Bw19; clear hgo
               refine wpList_store_as rfl 36 (.tmp 2) (.tmp 68) rfl 48 (ptF 0 1 1) arrP r_t2 rfl rfl (by omega) (fun j _ => ptF_one _ _ _ j) (fun i hi => putN_whole hi) ?_
               intro w31 q gk
               replace r_t5 := gb_rowIs r_t5 gk (Ne.symm n_t2_t5)
               replace r_t7 := gb_rowIs r_t7 gk (Ne.symm n_t2_t7)
               replace r_t8 := gb_rowIs r_t8 gk (Ne.symm n_t2_t8)
               replace r_t9 := gb_rowIs r_t9 gk (Ne.symm n_t2_t9)
               replace r_t10 := gb_rowIs r_t10 gk (Ne.symm n_t2_t10)
               replace r_t2 := q
               have Bw20 := Bw19.grown gk (HGS.out _ Bw19) (by intro k hk; cases hk; exact l_t2)
               clear Bw19 gk q))
          exact ret_cell_as_tmp _ rfl arrP r_t2 rfl rfl (by omega) (fun _ _ => rfl) rfl ⟨rfl, Bw20⟩
set_option maxHeartbeats 4000000 in
set_option maxRecDepth 10000 in
theorem refDecode_4 (v0 : Value) (l0 : List UInt8) (w : World) (h0 : Bs w v0 l0) (hl : l0.length = 32) (hYl : numL l0 32 % top < p25) (x : Nat) (hx : decX (numL l0 32 % top) = some x) (ho : numL l0 32 / top = 1) (hx0 : x = 0) : Calls Try.prog 11 #[v0] w fun e w' => e = .returned (.tuple #[.agg (arrOf 48 (ptF 0 1 1)), .int .i64 12]) ∧ Below w.heap.size w w' := by
  have HYL := Lib.hid hYl
  have HX_ := Lib.hid hx
  clear hYl hx
  have HO_ := Lib.hid ho
  clear ho
  obtain ⟨gb, off, c0, rfl, y0, z0, hgb, hcells⟩ := h0.open_n hl (by decide)
  have HL := Lib.hid hl
  have HF0 := Lib.hid h0
  obtain ⟨q, hq⟩ := nat_var ((l0.getD 31 0).toNat)
  have hql : q < 256 := by rw [hq]; exact UInt8.toNat_lt _
  have a1 := and127N q hql
  obtain ⟨u, hu⟩ := nat_var (q % 128)
  rw [← hu] at a1
  have a2 : (q : Int) % 128 = (u : Int) := by omega
  have HUL : Hid (u < 256) := Lib.hid (by omega)
  have HQL := Lib.hid hql
  have HSG : Hid (numL l0 32 / top = q / 128) := Lib.hid (by rw [(numL_cut l0 hl).2, ← hq])
  have HCB : Hid (cutB l0 = l0.set 31 (UInt8.ofNat u)) := Lib.hid (by rw [hu, hq]; rfl)
  obtain ⟨CL, hCL⟩ : ∃ C, C = cutB l0 := ⟨_, rfl⟩
  have HCL := Lib.hid hCL
  rw [← hCL] at HCB
  have HQ : Hid (∀ h : 31 < l0.length, (l0[31]'h).toNat = q) := Lib.hid fun h => by rw [hq, List.getD_eq_getElem?_getD, List.getElem?_eq_getElem h]; rfl
  have HC31 : Hid (∀ W, Below w.heap.size w W → W.cell? ⟨gb, off + 31, none⟩ = some (.int .u8 (q : Int))) := Lib.hid fun W hW => (bs_cell (h0.below hW (Nat.le_refl _)) 31 (by rw [hl]; decide)).trans (by rw [HQ.out])
  clear hCL hq hql hu hcells h0 hl
  have hx := HX_.out
  clear HX_
  have ho := HO_.out
  clear HO_
  obtain ⟨Y, hYv⟩ := nat_var (numL l0 32 % top)
  have HYv : Hid (numL l0 32 % top = Y) := Lib.hid hYv.symm
  have HY : Hid (Y < p25) := Lib.hid (by rw [hYv]; exact HYL.out)
  rw [← hYv] at hx
  have HRT := Lib.hid fun w => refRoot_some (decS Y) x w (decS_lt Y) hx
  unfold decS at HRT
  have Hx : Hid (x < p25) := Lib.hid (rootL_some prime_p25 t25_eq (decS_lt Y) hx).2.2
  have HX0 := Lib.hid hx0
  have HSH : Hid (1 = q / 128) := Lib.hid (ho.symm.trans HSG.out)
  clear ho hx0
  clear hx hYv HSG HYL
  have Bw0 := Below.refl w.heap.size w
  have HGS : Hid (∀ wq : World, Below w.heap.size w wq → w.heap.size ≤ wq.heap.size) := Lib.hid fun wq h => h.size
  go_enter Try.func11, Try.ntmps11
  go_wp2_with (first
    | (have hgo := Bw0; clear hgo
       refine wpList_alloc_row rfl 36 rfl 48 (u64f fun _ => 0) zeroPt ?_
       intro b_t2 w1 lk r_t2 kk
       have l_t2 := Nat.le_trans (HGS.out _ Bw0) lk
       have Bw1 := Bw0.trans (kk.mono (HGS.out _ Bw0))
       clear Bw0 kk lk
       have O1 := Owns.empty w1
       have k1 := (Below.refl w1.heap.size w1).alloc (Nat.le_refl _) (.cells #[] 5)
       have F1 := (HF0.out.below Bw1 (Nat.le_refl _)).below k1 (Nat.le_refl _))
    | (have hgo := Bw1; clear hgo
       refine wpList_app rfl (.tmp 17) (.tmp 18) rfl w1.heap.size _ _ [] l0 O1 F1 rfl rfl (by simp [HL.out]) (by simp) ?_
       intro v2 w2 ho hgr
       obtain ⟨g, cap, hv, hg, hgs, _, _⟩ := (show Owns w2 w1.heap.size v2 l0 from ho).open_cons (by rw [HL.out]; decide)
       rw [HL.out] at hv
       subst hv
       have o2 : Owns w2 w1.heap.size (.slice (some ⟨g, 0, none⟩) 32 cap) l0 := ho
       have hcap := owns_cap o2
       have C2 := k1.grown hgr (by simp) (fun k hk => by simp [Value.ownBlock] at hk; omega)
       clear O1 F1 k1 ho hgr)
    | (refine wpList_load_byte rfl (.tmp 22) rfl 31 q o2 HL.out.symm (by rw [HL.out]; decide) rfl (HQ.out _) ?_)
    | (refine wpList_store_byte rfl (.tmp 25) (.tmp 24) rfl 31 u o2 HL.out.symm hcap (by rw [HL.out]; decide) rfl rfl HUL.out ?_
       intro w3 o3 g3
       have C3 := C2.grown g3 C2.size (by intro k hk; cases hk; exact hg)
       have Bw2 := Bw1.trans (C3.mono (HGS.out _ Bw1))
       replace r_t2 := World.rowIs.of_block r_t2 (C3.block _ (World.rowIs.lt r_t2))
       rw [← HCB.out] at o3
       have f_c := o3.bs
       clear o2 C2 C3 Bw1 g3 o3)
    | (have hgo := Bw2; clear hgo
       go_at_call 43
       refine (refStrict_cut _ l0 CL Y _ f_c HCL.out HL.out HYv.out HY.out).mono ?_
       rintro e w12 ⟨rfl, kk⟩
       replace r_t2 := World.rowIs.of_block r_t2 (kk.block _ (World.rowIs.lt r_t2))
       have Bw3 := Bw2.trans (kk.mono (HGS.out _ Bw2))
       clear Bw2 kk)
    | (have hgo := Bw3; clear hgo
       refine wpList_alloc_row rfl 34 rfl 16 (u64f fun _ => 0) zeroFe ?_
       intro b_t5 w16 lk r_t5 kk
       have n_t2_t5 : b_t2 ≠ b_t5 := Nat.ne_of_lt (Nat.lt_of_lt_of_le (World.rowIs.lt r_t2) lk)
       have l_t5 := Nat.le_trans (HGS.out _ Bw3) lk
       replace r_t2 := World.rowIs.of_block r_t2 (kk.block _ (World.rowIs.lt r_t2))
       have Bw4 := Bw3.trans (kk.mono (HGS.out _ Bw3))
       clear Bw3 kk lk)
    | (have hgo := Bw4; clear hgo
       refine wpList_store_as rfl 34 (.tmp 5) (.tmp 29) rfl 16 (feF Y) arrFe r_t5 rfl rfl (by omega) (fun _ _ => rfl) (fun i hi => putN_whole hi) ?_
       intro w17 q gk
       replace r_t2 := gb_rowIs r_t2 gk n_t2_t5
       replace r_t5 := q
       have Bw5 := Bw4.grown gk (HGS.out _ Bw4) (by intro k hk; cases hk; exact l_t5)
       clear Bw4 gk q)
    | (have hgo := Bw5; clear hgo
       refine wpList_load_as rfl 34 (.tmp 5) rfl 16 (feF Y) arrFe r_t5 rfl (by omega) (fun i hi => by rw [Nat.zero_add]) ?_
       have Bw6 := Bw5
       clear Bw5)
    | (have hgo := Bw6; clear hgo
       refine wpList_load_as rfl 34 (.tmp 5) rfl 16 (feF Y) arrFe r_t5 rfl (by omega) (fun i hi => by rw [Nat.zero_add]) ?_
       have Bw7 := Bw6
       clear Bw6)
    | (have hgo := Bw7; clear hgo
       go_at_call 44
       refine (refMul5_any Y Y _ HY.out HY.out).mono ?_
       rintro e w21 ⟨rfl, kk⟩
       replace r_t2 := World.rowIs.of_block r_t2 (kk.block _ (World.rowIs.lt r_t2))
       replace r_t5 := World.rowIs.of_block r_t5 (kk.block _ (World.rowIs.lt r_t5))
       have Bw8 := Bw7.trans (kk.mono (HGS.out _ Bw7))
       clear Bw7 kk)
    | (have hgo := Bw8; clear hgo
       refine wpList_alloc_row rfl 34 rfl 16 (u64f fun _ => 0) zeroFe ?_
       intro b_t7 w22 lk r_t7 kk
       have n_t2_t7 : b_t2 ≠ b_t7 := Nat.ne_of_lt (Nat.lt_of_lt_of_le (World.rowIs.lt r_t2) lk)
       have n_t5_t7 : b_t5 ≠ b_t7 := Nat.ne_of_lt (Nat.lt_of_lt_of_le (World.rowIs.lt r_t5) lk)
       have l_t7 := Nat.le_trans (HGS.out _ Bw8) lk
       replace r_t2 := World.rowIs.of_block r_t2 (kk.block _ (World.rowIs.lt r_t2))
       replace r_t5 := World.rowIs.of_block r_t5 (kk.block _ (World.rowIs.lt r_t5))
       have Bw9 := Bw8.trans (kk.mono (HGS.out _ Bw8))
       clear Bw8 kk lk)
    | (have hgo := Bw9; clear hgo
       refine wpList_store_as rfl 34 (.tmp 7) (.tmp 36) rfl 16 (feF (mulP Y Y)) arrFe r_t7 rfl rfl (by omega) (fun _ _ => rfl) (fun i hi => putN_whole hi) ?_
       intro w23 q gk
       replace r_t2 := gb_rowIs r_t2 gk n_t2_t7
       replace r_t5 := gb_rowIs r_t5 gk n_t5_t7
       replace r_t7 := q
       have Bw10 := Bw9.grown gk (HGS.out _ Bw9) (by intro k hk; cases hk; exact l_t7)
       clear Bw9 gk q))
  have Bw11 := Bw10.drew
  replace r_t2 := World.rowIs.drew r_t2
  replace r_t5 := World.rowIs.drew r_t5
  replace r_t7 := World.rowIs.drew r_t7
  clear Bw10
  refine wp_region_po (Keep []) (Keep.refl _) (fun _ _ _ h1 h2 => h1.trans h2) (.rd 0 .done) #[true, false, false, false, false] [1, 2, 3, 4] [some 38, some 39, some 8, none] [[], [0], [], [0, 1, 2]] [(0, []), (1, []), (2, [0, 1, 1]), (3, []), (4, [3, 2, 2, 0, 1, 2, 3])] 1 (by as_aux_lemma => kernel_rfl) (by as_aux_lemma => kernel_rfl) (by decide) (by as_aux_lemma => kernel_rfl) (by as_aux_lemma => kernel_rfl) (by as_aux_lemma => kernel_rfl) rfl (fun d _ _ _ _ h => by cases d <;> exact h) ?_
  refine lintz_pure 37 (Op.load 34 (Operand.tmp 7)) 34 (.agg (arrOf 16 (feF (mulP Y Y)))) rfl rfl rfl rfl rfl (fun w0 hb => by exact exec_load_as _ _ _ _ (feF (mulP Y Y)) rfl arrFe (Keep.row hb r_t7 rfl) (by omega) (fun i hi => by rw [Nat.zero_add])) ?_
  simp only [Act.put, List.setIfInBounds_toArray, List.set_cons_zero, List.set_cons_succ]
  refine lintz_leaf ?_
  have HWF : poWf [.val (.agg (arrOf 16 (feF 1))), .val (.agg (arrOf 16 (feF (subP p25 (mulP Y Y) 1)))), .row 34 16 (u64f fun _ => 0) 3 (feF (subP p25 (mulP Y Y) 1)), .nil] [] = true := by as_aux_lemma => kernel_rfl
  refine ⟨JG [.val (.agg (arrOf 16 (feF 1))), .val (.agg (arrOf 16 (feF (subP p25 (mulP Y Y) 1)))), .row 34 16 (u64f fun _ => 0) 3 (feF (subP p25 (mulP Y Y) 1)), .nil] [] _, JG.start (Nat.le_refl _) (fun i hi => absurd hi (Nat.not_lt_zero _)), fun m gz wa p az hp hm hmp hcl hdn hE hJ hS hO => ?_, fun gz wa hE hJ => ?_⟩
  · rcases (show p = 0 ∨ p = 1 ∨ p = 2 ∨ p = 3 by have h9 : p < 4 := hp; omega) with rfl | rfl | rfl | rfl
    · exact po_call 38 46 #[Operand.const (Value.int IntKind.u64 1)] #[24] _ HWF hJ rfl hE (refSmall_any 1 _ (by decide)) rfl rfl rfl rfl rfl Try.func46 (by kernel_rfl) (by kernel_rfl) (by simp only [List.map_toArray, List.map_cons, List.map_nil, eval_const, eval_func] <;> rfl)
    · have e37 : az.eval (.tmp 37) = .agg (arrOf 16 (feF (mulP Y Y))) := hO 37 rfl
      have e38 := (hS 0 38 rfl (hdn 0 (by decide)) (Nat.le_of_ble_eq_true rfl)).trans (hJ.says (hdn 0 (by decide)) rfl)
      exact po_call 39 45 #[Operand.tmp 37, Operand.tmp 38] #[34, 34] _ HWF hJ rfl hE (refSub_any (mulP Y Y) 1 _ (mulP_lt _ _) (by decide +kernel)) rfl rfl rfl rfl rfl Try.func45 (by kernel_rfl) (by kernel_rfl) (by simp only [List.map_toArray, List.map_cons, List.map_nil, eval_const, eval_func, e37, e38] <;> rfl)
    · exact po_alloc 8 _ 34 16 (u64f fun _ => 0) _ _ HWF hJ rfl (po_notyet hcl hmp (by rw [hm]; exact hp) (by decide)) hE rfl rfl rfl rfl rfl rfl zeroFe
    · have e39 := (hS 1 39 rfl (hdn 1 (by decide)) (Nat.le_of_ble_eq_true rfl)).trans (hJ.says (hdn 1 (by decide)) rfl)
      exact po_storeRow 2 (.tmp 8) (.tmp 39) 34 16 _ _ (by rw [hm]; exact hp) hmp hJ rfl rfl (hdn 2 (by decide)) (by kernel_rfl) (fun i hi => absurd hi (Nat.not_lt_zero _)) hE rfl rfl rfl rfl rfl (hS 2 8 rfl (hdn 2 (by decide)) (Nat.le_of_ble_eq_true rfl)) e39 arrFe (fun _ _ => rfl)
  · have q0 := hJ.told 0 (by decide) rfl
    have q1 := hJ.told 1 (by decide) rfl
    obtain ⟨b_t8, p_t8, lk_t8, r_t8, d_t8⟩ := hJ.row 2 (by decide) rfl (by decide)
    rw [putO_true _ _ _ _ _ rfl]
    simp only [putA, Nat.zero_add, Nat.reduceAdd]
    rw [q0, q1, p_t8]
    simp only [Act.put, List.setIfInBounds_toArray, List.set_cons_zero, List.set_cons_succ]
    refine po_end ?_
    have n_t2_t8 : b_t2 ≠ b_t8 := Nat.ne_of_lt (Nat.lt_of_lt_of_le (World.rowIs.lt r_t2) lk_t8)
    have n_t5_t8 : b_t5 ≠ b_t8 := Nat.ne_of_lt (Nat.lt_of_lt_of_le (World.rowIs.lt r_t5) lk_t8)
    have n_t7_t8 : b_t7 ≠ b_t8 := Nat.ne_of_lt (Nat.lt_of_lt_of_le (World.rowIs.lt r_t7) lk_t8)
    have l_t8 := Nat.le_trans (HGS.out _ Bw11) lk_t8
    replace r_t2 := Keep.row hE r_t2 rfl
    replace r_t5 := Keep.row hE r_t5 rfl
    replace r_t7 := Keep.row hE r_t7 rfl
    have Bw12 := hE.below Bw11 (HGS.out _ Bw11) rfl
    clear Bw11 hE hJ HWF q0 q1 p_t8 lk_t8 d_t8
    go_wp2
    have Bw13 := Bw12.drew
    replace r_t2 := World.rowIs.drew r_t2
    replace r_t5 := World.rowIs.drew r_t5
    replace r_t7 := World.rowIs.drew r_t7
    replace r_t8 := World.rowIs.drew r_t8
    clear Bw12
    refine wp_region_po (Keep []) (Keep.refl _) (fun _ _ _ h1 h2 => h1.trans h2) (.rd 1 .done) #[false, true, false, false, false, false, false] [0, 2, 3, 4, 5, 6] [some 40, some 42, some 43, some 44, some 9, none] [[], [0], [1], [1, 2], [], [0, 1, 2, 3, 4]] [(0, []), (1, []), (2, [0, 1, 0]), (3, [2]), (4, [2, 3, 3]), (5, []), (6, [5, 4, 4, 0, 1, 2, 3, 4, 5])] 2 (by as_aux_lemma => kernel_rfl) (by as_aux_lemma => kernel_rfl) (by decide) (by as_aux_lemma => kernel_rfl) (by as_aux_lemma => kernel_rfl) (by as_aux_lemma => kernel_rfl) rfl (fun d _ _ _ _ h => by cases d <;> exact h) ?_
    refine lintz_pure 41 (Op.load 34 (Operand.tmp 7)) 34 (.agg (arrOf 16 (feF (mulP Y Y)))) rfl rfl rfl rfl rfl (fun w0 hb => by exact exec_load_as _ _ _ _ (feF (mulP Y Y)) rfl arrFe (Keep.row hb r_t7 rfl) (by omega) (fun i hi => by rw [Nat.zero_add])) ?_
    simp only [Act.put, List.setIfInBounds_toArray, List.set_cons_zero, List.set_cons_succ]
    refine lintz_leaf ?_
    have HWF : poWf [.val (.agg (arrOf 16 (feF dP))), .val (.agg (arrOf 16 (feF (mulP dP (mulP Y Y))))), .val (.agg (arrOf 16 (feF 1))), .val (.agg (arrOf 16 (feF (addP (mulP dP (mulP Y Y)) 1)))), .row 34 16 (u64f fun _ => 0) 5 (feF (addP (mulP dP (mulP Y Y)) 1)), .nil] [] = true := by as_aux_lemma => kernel_rfl
    refine ⟨JG [.val (.agg (arrOf 16 (feF dP))), .val (.agg (arrOf 16 (feF (mulP dP (mulP Y Y))))), .val (.agg (arrOf 16 (feF 1))), .val (.agg (arrOf 16 (feF (addP (mulP dP (mulP Y Y)) 1)))), .row 34 16 (u64f fun _ => 0) 5 (feF (addP (mulP dP (mulP Y Y)) 1)), .nil] [] _, JG.start (Nat.le_refl _) (fun i hi => absurd hi (Nat.not_lt_zero _)), fun m gz wa p az hp hm hmp hcl hdn hE hJ hS hO => ?_, fun gz wa hE hJ => ?_⟩
    · rcases (show p = 0 ∨ p = 1 ∨ p = 2 ∨ p = 3 ∨ p = 4 ∨ p = 5 by have h9 : p < 6 := hp; omega) with rfl | rfl | rfl | rfl | rfl | rfl
      · exact po_call 40 47 #[] #[] _ HWF hJ rfl hE (curve_any _) rfl rfl rfl rfl rfl Try.func47 (by kernel_rfl) (by kernel_rfl) (by simp only [List.map_toArray, List.map_cons, List.map_nil, eval_const, eval_func] <;> rfl)
      · have e40 := (hS 0 40 rfl (hdn 0 (by decide)) (Nat.le_of_ble_eq_true rfl)).trans (hJ.says (hdn 0 (by decide)) rfl)
        have e41 : az.eval (.tmp 41) = .agg (arrOf 16 (feF (mulP Y Y))) := hO 41 rfl
        exact po_call 42 44 #[Operand.tmp 40, Operand.tmp 41] #[34, 34] _ HWF hJ rfl hE (refMul5_any dP (mulP Y Y) _ dP_lt (mulP_lt _ _)) rfl rfl rfl rfl rfl Try.func44 (by kernel_rfl) (by kernel_rfl) (by simp only [List.map_toArray, List.map_cons, List.map_nil, eval_const, eval_func, e40, e41] <;> rfl)
      · exact po_call 43 46 #[Operand.const (Value.int IntKind.u64 1)] #[24] _ HWF hJ rfl hE (refSmall_any 1 _ (by decide)) rfl rfl rfl rfl rfl Try.func46 (by kernel_rfl) (by kernel_rfl) (by simp only [List.map_toArray, List.map_cons, List.map_nil, eval_const, eval_func] <;> rfl)
      · have e42 := (hS 1 42 rfl (hdn 1 (by decide)) (Nat.le_of_ble_eq_true rfl)).trans (hJ.says (hdn 1 (by decide)) rfl)
        have e43 := (hS 2 43 rfl (hdn 2 (by decide)) (Nat.le_of_ble_eq_true rfl)).trans (hJ.says (hdn 2 (by decide)) rfl)
        exact po_call 44 48 #[Operand.tmp 42, Operand.tmp 43] #[34, 34] _ HWF hJ rfl hE (refAdd5_any (mulP dP (mulP Y Y)) 1 _ (mulP_lt _ _) (by decide +kernel)) rfl rfl rfl rfl rfl Try.func48 (by kernel_rfl) (by kernel_rfl) (by simp only [List.map_toArray, List.map_cons, List.map_nil, eval_const, eval_func, e42, e43] <;> rfl)
      · exact po_alloc 9 _ 34 16 (u64f fun _ => 0) _ _ HWF hJ rfl (po_notyet hcl hmp (by rw [hm]; exact hp) (by decide)) hE rfl rfl rfl rfl rfl rfl zeroFe
      · have e44 := (hS 3 44 rfl (hdn 3 (by decide)) (Nat.le_of_ble_eq_true rfl)).trans (hJ.says (hdn 3 (by decide)) rfl)
        exact po_storeRow 4 (.tmp 9) (.tmp 44) 34 16 _ _ (by rw [hm]; exact hp) hmp hJ rfl rfl (hdn 4 (by decide)) (by kernel_rfl) (fun i hi => absurd hi (Nat.not_lt_zero _)) hE rfl rfl rfl rfl rfl (hS 4 9 rfl (hdn 4 (by decide)) (Nat.le_of_ble_eq_true rfl)) e44 arrFe (fun _ _ => rfl)
    · have q0 := hJ.told 0 (by decide) rfl
      have q1 := hJ.told 1 (by decide) rfl
      have q2 := hJ.told 2 (by decide) rfl
      have q3 := hJ.told 3 (by decide) rfl
      obtain ⟨b_t9, p_t9, lk_t9, r_t9, d_t9⟩ := hJ.row 4 (by decide) rfl (by decide)
      rw [putO_true _ _ _ _ _ rfl]
      simp only [putA, Nat.zero_add, Nat.reduceAdd]
      rw [q0, q1, q2, q3, p_t9]
      simp only [Act.put, List.setIfInBounds_toArray, List.set_cons_zero, List.set_cons_succ]
      refine po_end ?_
      have n_t2_t9 : b_t2 ≠ b_t9 := Nat.ne_of_lt (Nat.lt_of_lt_of_le (World.rowIs.lt r_t2) lk_t9)
      have n_t5_t9 : b_t5 ≠ b_t9 := Nat.ne_of_lt (Nat.lt_of_lt_of_le (World.rowIs.lt r_t5) lk_t9)
      have n_t7_t9 : b_t7 ≠ b_t9 := Nat.ne_of_lt (Nat.lt_of_lt_of_le (World.rowIs.lt r_t7) lk_t9)
      have n_t8_t9 : b_t8 ≠ b_t9 := Nat.ne_of_lt (Nat.lt_of_lt_of_le (World.rowIs.lt r_t8) lk_t9)
      have l_t9 := Nat.le_trans (HGS.out _ Bw13) lk_t9
      replace r_t2 := Keep.row hE r_t2 rfl
      replace r_t5 := Keep.row hE r_t5 rfl
      replace r_t7 := Keep.row hE r_t7 rfl
      replace r_t8 := Keep.row hE r_t8 rfl
      have Bw14 := hE.below Bw13 (HGS.out _ Bw13) rfl
      clear Bw13 hE hJ HWF q0 q1 q2 q3 p_t9 lk_t9 d_t9
      go_wp2
      have Bw15 := Bw14.drew
      replace r_t2 := World.rowIs.drew r_t2
      replace r_t5 := World.rowIs.drew r_t5
      replace r_t7 := World.rowIs.drew r_t7
      replace r_t8 := World.rowIs.drew r_t8
      replace r_t9 := World.rowIs.drew r_t9
      clear Bw14
      refine wp_region_po (Keep []) (Keep.refl _) (fun _ _ _ h1 h2 => h1.trans h2) (.rd 0 (.rd 1 .done)) #[true, true, false, false, false, false, false, false, false, false, false] [2, 3, 4, 5, 6, 7, 8, 9, 10] [some 48, some 49, some 50, some 45, some 51, some 52, some 10, none, some 11] [[], [0], [1], [2], [3], [3], [], [0, 1, 2, 3, 4, 6], [0, 1, 2, 3, 4, 5, 6, 7]] [(0, []), (1, []), (2, [1]), (3, [0, 2, 2]), (4, [3, 3]), (5, [4]), (6, [5]), (7, [5]), (8, []), (9, [8, 6, 4, 0, 1, 2, 3, 4, 5, 6, 8]), (10, [7, 9, 0, 1, 2, 3, 4, 5, 6, 7, 8, 9])] 3 (by as_aux_lemma => kernel_rfl) (by as_aux_lemma => kernel_rfl) (by decide) (by as_aux_lemma => kernel_rfl) (by as_aux_lemma => kernel_rfl) (by as_aux_lemma => kernel_rfl) rfl (fun d _ _ _ _ h => by cases d <;> exact h) ?_
      refine lintz_pure 46 (Op.load 34 (Operand.tmp 8)) 34 (.agg (arrOf 16 (feF (subP p25 (mulP Y Y) 1)))) rfl rfl rfl rfl rfl (fun w0 hb => by exact exec_load_as _ _ _ _ (feF (subP p25 (mulP Y Y) 1)) rfl arrFe (Keep.row hb r_t8 rfl) (by omega) (fun i hi => by rw [Nat.zero_add])) ?_
      simp only [Act.put, List.setIfInBounds_toArray, List.set_cons_zero, List.set_cons_succ]
      refine lintz_pure 47 (Op.load 34 (Operand.tmp 9)) 34 (.agg (arrOf 16 (feF (addP (mulP dP (mulP Y Y)) 1)))) rfl rfl rfl rfl rfl (fun w0 hb => by exact exec_load_as _ _ _ _ (feF (addP (mulP dP (mulP Y Y)) 1)) rfl arrFe (Keep.row hb r_t9 rfl) (by omega) (fun i hi => by rw [Nat.zero_add])) ?_
      simp only [Act.put, List.setIfInBounds_toArray, List.set_cons_zero, List.set_cons_succ]
      refine lintz_leaf ?_
      have HWF : poWf [.val (.agg (arrOf 16 (feF (invP (addP (mulP dP (mulP Y Y)) 1))))), .val (.agg (arrOf 16 (feF (mulP (subP p25 (mulP Y Y) 1) (invP (addP (mulP dP (mulP Y Y)) 1)))))), .val (.tuple #[.agg (arrOf 16 (feF x)), .int .i64 0]), .val (.tuple #[.agg (arrOf 16 (feF x)), .int .i64 0]), .val (.agg (arrOf 16 (feF x))), .val (.int .i64 0), .row 34 16 (u64f fun _ => 0) 7 (feF x), .nil, .val (.int .i64 0)] [] = true := by as_aux_lemma => kernel_rfl
      refine ⟨JG [.val (.agg (arrOf 16 (feF (invP (addP (mulP dP (mulP Y Y)) 1))))), .val (.agg (arrOf 16 (feF (mulP (subP p25 (mulP Y Y) 1) (invP (addP (mulP dP (mulP Y Y)) 1)))))), .val (.tuple #[.agg (arrOf 16 (feF x)), .int .i64 0]), .val (.tuple #[.agg (arrOf 16 (feF x)), .int .i64 0]), .val (.agg (arrOf 16 (feF x))), .val (.int .i64 0), .row 34 16 (u64f fun _ => 0) 7 (feF x), .nil, .val (.int .i64 0)] [] _, JG.start (Nat.le_refl _) (fun i hi => absurd hi (Nat.not_lt_zero _)), fun m gz wa p az hp hm hmp hcl hdn hE hJ hS hO => ?_, fun gz wa hE hJ => ?_⟩
      · rcases (show p = 0 ∨ p = 1 ∨ p = 2 ∨ p = 3 ∨ p = 4 ∨ p = 5 ∨ p = 6 ∨ p = 7 ∨ p = 8 by have h9 : p < 9 := hp; omega) with rfl | rfl | rfl | rfl | rfl | rfl | rfl | rfl | rfl
        · have e47 : az.eval (.tmp 47) = .agg (arrOf 16 (feF (addP (mulP dP (mulP Y Y)) 1))) := hO 47 rfl
          exact po_call 48 49 #[Operand.tmp 47] #[34] _ HWF hJ rfl hE (refInv5_any (addP (mulP dP (mulP Y Y)) 1) _ (addP_lt _ _)) rfl rfl rfl rfl rfl Try.func49 (by kernel_rfl) (by kernel_rfl) (by simp only [List.map_toArray, List.map_cons, List.map_nil, eval_const, eval_func, e47] <;> rfl)
        · have e46 : az.eval (.tmp 46) = .agg (arrOf 16 (feF (subP p25 (mulP Y Y) 1))) := hO 46 rfl
          have e48 := (hS 0 48 rfl (hdn 0 (by decide)) (Nat.le_of_ble_eq_true rfl)).trans (hJ.says (hdn 0 (by decide)) rfl)
          exact po_call 49 44 #[Operand.tmp 46, Operand.tmp 48] #[34, 34] _ HWF hJ rfl hE (refMul5_any (subP p25 (mulP Y Y) 1) (invP (addP (mulP dP (mulP Y Y)) 1)) _ (subP_lt _ _) (invP_lt _)) rfl rfl rfl rfl rfl Try.func44 (by kernel_rfl) (by kernel_rfl) (by simp only [List.map_toArray, List.map_cons, List.map_nil, eval_const, eval_func, e46, e48] <;> rfl)
        · have e49 := (hS 1 49 rfl (hdn 1 (by decide)) (Nat.le_of_ble_eq_true rfl)).trans (hJ.says (hdn 1 (by decide)) rfl)
          exact po_call 50 50 #[Operand.tmp 49] #[34] _ HWF hJ rfl hE (HRT.out _) rfl rfl rfl rfl rfl Try.func50 (by kernel_rfl) (by kernel_rfl) (by simp only [List.map_toArray, List.map_cons, List.map_nil, eval_const, eval_func, e49] <;> rfl)
        · have e50 := (hS 2 50 rfl (hdn 2 (by decide)) (Nat.le_of_ble_eq_true rfl)).trans (hJ.says (hdn 2 (by decide)) rfl)
          exact po_run 45 (Op.move (Operand.tmp 50)) _ HWF hJ rfl hE rfl rfl rfl rfl rfl rfl (by first | (simp only [execOp, mkOp, eval_const, e50]; done) | (simp only [execOp, mkOp, eval_const, e50]; go_simp))
        · have e45 := (hS 3 45 rfl (hdn 3 (by decide)) (Nat.le_of_ble_eq_true rfl)).trans (hJ.says (hdn 3 (by decide)) rfl)
          exact po_run 51 (Op.extract (Operand.tmp 45) 0) _ HWF hJ rfl hE rfl rfl rfl rfl rfl rfl (by first | (simp only [execOp, mkOp, eval_const, e45]; done) | (simp only [execOp, mkOp, eval_const, e45]; go_simp))
        · have e45 := (hS 3 45 rfl (hdn 3 (by decide)) (Nat.le_of_ble_eq_true rfl)).trans (hJ.says (hdn 3 (by decide)) rfl)
          exact po_run 52 (Op.extract (Operand.tmp 45) 1) _ HWF hJ rfl hE rfl rfl rfl rfl rfl rfl (by first | (simp only [execOp, mkOp, eval_const, e45]; done) | (simp only [execOp, mkOp, eval_const, e45]; go_simp))
        · exact po_alloc 10 _ 34 16 (u64f fun _ => 0) _ _ HWF hJ rfl (po_notyet hcl hmp (by rw [hm]; exact hp) (by decide)) hE rfl rfl rfl rfl rfl rfl zeroFe
        · have e51 := (hS 4 51 rfl (hdn 4 (by decide)) (Nat.le_of_ble_eq_true rfl)).trans (hJ.says (hdn 4 (by decide)) rfl)
          exact po_storeRow 6 (.tmp 10) (.tmp 51) 34 16 _ _ (by rw [hm]; exact hp) hmp hJ rfl rfl (hdn 6 (by decide)) (by kernel_rfl) (fun i hi => absurd hi (Nat.not_lt_zero _)) hE rfl rfl rfl rfl rfl (hS 6 10 rfl (hdn 6 (by decide)) (Nat.le_of_ble_eq_true rfl)) e51 arrFe (fun _ _ => rfl)
        · have e52 := (hS 5 52 rfl (hdn 5 (by decide)) (Nat.le_of_ble_eq_true rfl)).trans (hJ.says (hdn 5 (by decide)) rfl)
          exact po_run 11 (Op.assign (Operand.tmp 52)) _ HWF hJ rfl hE rfl rfl rfl rfl rfl rfl (by first | (simp only [execOp, mkOp, eval_const, e52]; done) | (simp only [execOp, mkOp, eval_const, e52]; go_simp))
      · have q0 := hJ.told 0 (by decide) rfl
        have q1 := hJ.told 1 (by decide) rfl
        have q2 := hJ.told 2 (by decide) rfl
        have q3 := hJ.told 3 (by decide) rfl
        have q4 := hJ.told 4 (by decide) rfl
        have q5 := hJ.told 5 (by decide) rfl
        obtain ⟨b_t10, p_t10, lk_t10, r_t10, d_t10⟩ := hJ.row 6 (by decide) rfl (by decide)
        have q8 := hJ.told 8 (by decide) rfl
        rw [putO_true _ _ _ _ _ rfl]
        simp only [putA, Nat.zero_add, Nat.reduceAdd]
        rw [q0, q1, q2, q3, q4, q5, p_t10, q8]
        simp only [Act.put, List.setIfInBounds_toArray, List.set_cons_zero, List.set_cons_succ]
        refine po_end ?_
        have n_t2_t10 : b_t2 ≠ b_t10 := Nat.ne_of_lt (Nat.lt_of_lt_of_le (World.rowIs.lt r_t2) lk_t10)
        have n_t5_t10 : b_t5 ≠ b_t10 := Nat.ne_of_lt (Nat.lt_of_lt_of_le (World.rowIs.lt r_t5) lk_t10)
        have n_t7_t10 : b_t7 ≠ b_t10 := Nat.ne_of_lt (Nat.lt_of_lt_of_le (World.rowIs.lt r_t7) lk_t10)
        have n_t8_t10 : b_t8 ≠ b_t10 := Nat.ne_of_lt (Nat.lt_of_lt_of_le (World.rowIs.lt r_t8) lk_t10)
        have n_t9_t10 : b_t9 ≠ b_t10 := Nat.ne_of_lt (Nat.lt_of_lt_of_le (World.rowIs.lt r_t9) lk_t10)
        have l_t10 := Nat.le_trans (HGS.out _ Bw15) lk_t10
        replace r_t2 := Keep.row hE r_t2 rfl
        replace r_t5 := Keep.row hE r_t5 rfl
        replace r_t7 := Keep.row hE r_t7 rfl
        replace r_t8 := Keep.row hE r_t8 rfl
        replace r_t9 := Keep.row hE r_t9 rfl
        have Bw16 := hE.below Bw15 (HGS.out _ Bw15) rfl
        clear Bw15 hE hJ HWF q0 q1 q2 q3 q4 q5 q8 p_t10 lk_t10 d_t10
        go_wp2_with (first
          | (have hgo := Bw16; clear hgo
             refine wpList_load_cat rfl (.tmp 54) rfl (HC31.out _ Bw16) rfl ?_
             have Bw17 := Bw16
             clear Bw16)
          | (have hgo := Bw17; clear hgo
             refine wpList_shr7 rfl (.tmp 55) (.const (.int .u64 7)) rfl rfl rfl HSH.out HQL.out ?_
             have Bw18 := Bw17
             clear Bw17)
          | (have hgo := Bw18; clear hgo
             refine wpList_load_given rfl 34 (.tmp 10) rfl 16 arrFe r_t10 rfl (by omega) ?_
             simp only [Nat.zero_add]
             have Bw19 := Bw18
             clear Bw18)
          | (have hgo := Bw19; clear hgo
             refine wpList_value_given rfl (.agg (arrOf 16 (feF 0))) (by rw [exec_mkOp]; exact exec_zeroFe _ _) ?_
             have Bw20 := Bw19
             clear Bw19)
          | (have hgo := Bw20; clear hgo
             refine wpList_value_given rfl (.bool true) (by rw [exec_mkOp]; exact exec_Fe_eq2 _ _ _ _ Hx.out p25_pos (decide_eq_true HX0.out) rfl rfl) ?_
             have Bw21 := Bw20
             clear Bw20)
          | (have hgo := Bw21; clear hgo
             go_at_call 42
             refine (refZero_any _).mono ?_
             rintro e w40 ⟨rfl, kk⟩
             replace r_t2 := World.rowIs.of_block r_t2 (kk.block _ (World.rowIs.lt r_t2))
             replace r_t5 := World.rowIs.of_block r_t5 (kk.block _ (World.rowIs.lt r_t5))
             replace r_t7 := World.rowIs.of_block r_t7 (kk.block _ (World.rowIs.lt r_t7))
             replace r_t8 := World.rowIs.of_block r_t8 (kk.block _ (World.rowIs.lt r_t8))
             replace r_t9 := World.rowIs.of_block r_t9 (kk.block _ (World.rowIs.lt r_t9))
             replace r_t10 := World.rowIs.of_block r_t10 (kk.block _ (World.rowIs.lt r_t10))
             have Bw22 := Bw21.trans (kk.mono (HGS.out _ Bw21))
             clear Bw21 kk)
          | (have hgo := Bw22; clear hgo
             refine wpList_store_as rfl 36 (.tmp 2) (.tmp 68) rfl 48 (ptF 0 1 1) arrP r_t2 rfl rfl (by omega) (fun j _ => ptF_one _ _ _ j) (fun i hi => putN_whole hi) ?_
             intro w41 q gk
             replace r_t5 := gb_rowIs r_t5 gk (Ne.symm n_t2_t5)
             replace r_t7 := gb_rowIs r_t7 gk (Ne.symm n_t2_t7)
             replace r_t8 := gb_rowIs r_t8 gk (Ne.symm n_t2_t8)
             replace r_t9 := gb_rowIs r_t9 gk (Ne.symm n_t2_t9)
             replace r_t10 := gb_rowIs r_t10 gk (Ne.symm n_t2_t10)
             replace r_t2 := q
             have Bw23 := Bw22.grown gk (HGS.out _ Bw22) (by intro k hk; cases hk; exact l_t2)
             clear Bw22 gk q))
        exact ret_cell_as_tmp _ rfl arrP r_t2 rfl rfl (by omega) (fun _ _ => rfl) rfl ⟨rfl, Bw23⟩
set_option maxHeartbeats 4000000 in
set_option maxRecDepth 10000 in
theorem refDecode_5 (v0 : Value) (l0 : List UInt8) (w : World) (h0 : Bs w v0 l0) (hl : l0.length = 32) (hYl : numL l0 32 % top < p25) (x : Nat) (hx : decX (numL l0 32 % top) = some x) (ho : numL l0 32 / top = 0) (hx0 : x = 0) : Calls Try.prog 11 #[v0] w fun e w' => e = .returned (.tuple #[.agg (arrOf 48 (ptF x (numL l0 32 % top) 1)), .int .i64 0]) ∧ Below w.heap.size w w' := by
  have HYL := Lib.hid hYl
  have HX_ := Lib.hid hx
  clear hYl hx
  have HO_ := Lib.hid ho
  clear ho
  obtain ⟨gb, off, c0, rfl, y0, z0, hgb, hcells⟩ := h0.open_n hl (by decide)
  have HL := Lib.hid hl
  have HF0 := Lib.hid h0
  obtain ⟨q, hq⟩ := nat_var ((l0.getD 31 0).toNat)
  have hql : q < 256 := by rw [hq]; exact UInt8.toNat_lt _
  have a1 := and127N q hql
  obtain ⟨u, hu⟩ := nat_var (q % 128)
  rw [← hu] at a1
  have a2 : (q : Int) % 128 = (u : Int) := by omega
  have HUL : Hid (u < 256) := Lib.hid (by omega)
  have HQL := Lib.hid hql
  have HSG : Hid (numL l0 32 / top = q / 128) := Lib.hid (by rw [(numL_cut l0 hl).2, ← hq])
  have HCB : Hid (cutB l0 = l0.set 31 (UInt8.ofNat u)) := Lib.hid (by rw [hu, hq]; rfl)
  obtain ⟨CL, hCL⟩ : ∃ C, C = cutB l0 := ⟨_, rfl⟩
  have HCL := Lib.hid hCL
  rw [← hCL] at HCB
  have HQ : Hid (∀ h : 31 < l0.length, (l0[31]'h).toNat = q) := Lib.hid fun h => by rw [hq, List.getD_eq_getElem?_getD, List.getElem?_eq_getElem h]; rfl
  have HC31 : Hid (∀ W, Below w.heap.size w W → W.cell? ⟨gb, off + 31, none⟩ = some (.int .u8 (q : Int))) := Lib.hid fun W hW => (bs_cell (h0.below hW (Nat.le_refl _)) 31 (by rw [hl]; decide)).trans (by rw [HQ.out])
  clear hCL hq hql hu hcells h0 hl
  have hx := HX_.out
  clear HX_
  have ho := HO_.out
  clear HO_
  obtain ⟨Y, hYv⟩ := nat_var (numL l0 32 % top)
  have HYv : Hid (numL l0 32 % top = Y) := Lib.hid hYv.symm
  have HY : Hid (Y < p25) := Lib.hid (by rw [hYv]; exact HYL.out)
  rw [← hYv] at hx
  have HRT := Lib.hid fun w => refRoot_some (decS Y) x w (decS_lt Y) hx
  unfold decS at HRT
  have Hx : Hid (x < p25) := Lib.hid (rootL_some prime_p25 t25_eq (decS_lt Y) hx).2.2
  have HX0 := Lib.hid hx0
  have HSH : Hid (0 = q / 128) := Lib.hid (ho.symm.trans HSG.out)
  clear ho hx0
  clear hx hYv HSG HYL
  have Bw0 := Below.refl w.heap.size w
  have HGS : Hid (∀ wq : World, Below w.heap.size w wq → w.heap.size ≤ wq.heap.size) := Lib.hid fun wq h => h.size
  go_enter Try.func11, Try.ntmps11
  go_wp2_with (first
    | (have hgo := Bw0; clear hgo
       refine wpList_alloc_row rfl 36 rfl 48 (u64f fun _ => 0) zeroPt ?_
       intro b_t2 w1 lk r_t2 kk
       have l_t2 := Nat.le_trans (HGS.out _ Bw0) lk
       have Bw1 := Bw0.trans (kk.mono (HGS.out _ Bw0))
       clear Bw0 kk lk
       have O1 := Owns.empty w1
       have k1 := (Below.refl w1.heap.size w1).alloc (Nat.le_refl _) (.cells #[] 5)
       have F1 := (HF0.out.below Bw1 (Nat.le_refl _)).below k1 (Nat.le_refl _))
    | (have hgo := Bw1; clear hgo
       refine wpList_app rfl (.tmp 17) (.tmp 18) rfl w1.heap.size _ _ [] l0 O1 F1 rfl rfl (by simp [HL.out]) (by simp) ?_
       intro v2 w2 ho hgr
       obtain ⟨g, cap, hv, hg, hgs, _, _⟩ := (show Owns w2 w1.heap.size v2 l0 from ho).open_cons (by rw [HL.out]; decide)
       rw [HL.out] at hv
       subst hv
       have o2 : Owns w2 w1.heap.size (.slice (some ⟨g, 0, none⟩) 32 cap) l0 := ho
       have hcap := owns_cap o2
       have C2 := k1.grown hgr (by simp) (fun k hk => by simp [Value.ownBlock] at hk; omega)
       clear O1 F1 k1 ho hgr)
    | (refine wpList_load_byte rfl (.tmp 22) rfl 31 q o2 HL.out.symm (by rw [HL.out]; decide) rfl (HQ.out _) ?_)
    | (refine wpList_store_byte rfl (.tmp 25) (.tmp 24) rfl 31 u o2 HL.out.symm hcap (by rw [HL.out]; decide) rfl rfl HUL.out ?_
       intro w3 o3 g3
       have C3 := C2.grown g3 C2.size (by intro k hk; cases hk; exact hg)
       have Bw2 := Bw1.trans (C3.mono (HGS.out _ Bw1))
       replace r_t2 := World.rowIs.of_block r_t2 (C3.block _ (World.rowIs.lt r_t2))
       rw [← HCB.out] at o3
       have f_c := o3.bs
       clear o2 C2 C3 Bw1 g3 o3)
    | (have hgo := Bw2; clear hgo
       go_at_call 43
       refine (refStrict_cut _ l0 CL Y _ f_c HCL.out HL.out HYv.out HY.out).mono ?_
       rintro e w12 ⟨rfl, kk⟩
       replace r_t2 := World.rowIs.of_block r_t2 (kk.block _ (World.rowIs.lt r_t2))
       have Bw3 := Bw2.trans (kk.mono (HGS.out _ Bw2))
       clear Bw2 kk)
    | (have hgo := Bw3; clear hgo
       refine wpList_alloc_row rfl 34 rfl 16 (u64f fun _ => 0) zeroFe ?_
       intro b_t5 w16 lk r_t5 kk
       have n_t2_t5 : b_t2 ≠ b_t5 := Nat.ne_of_lt (Nat.lt_of_lt_of_le (World.rowIs.lt r_t2) lk)
       have l_t5 := Nat.le_trans (HGS.out _ Bw3) lk
       replace r_t2 := World.rowIs.of_block r_t2 (kk.block _ (World.rowIs.lt r_t2))
       have Bw4 := Bw3.trans (kk.mono (HGS.out _ Bw3))
       clear Bw3 kk lk)
    | (have hgo := Bw4; clear hgo
       refine wpList_store_as rfl 34 (.tmp 5) (.tmp 29) rfl 16 (feF Y) arrFe r_t5 rfl rfl (by omega) (fun _ _ => rfl) (fun i hi => putN_whole hi) ?_
       intro w17 q gk
       replace r_t2 := gb_rowIs r_t2 gk n_t2_t5
       replace r_t5 := q
       have Bw5 := Bw4.grown gk (HGS.out _ Bw4) (by intro k hk; cases hk; exact l_t5)
       clear Bw4 gk q)
    | (have hgo := Bw5; clear hgo
       refine wpList_load_as rfl 34 (.tmp 5) rfl 16 (feF Y) arrFe r_t5 rfl (by omega) (fun i hi => by rw [Nat.zero_add]) ?_
       have Bw6 := Bw5
       clear Bw5)
    | (have hgo := Bw6; clear hgo
       refine wpList_load_as rfl 34 (.tmp 5) rfl 16 (feF Y) arrFe r_t5 rfl (by omega) (fun i hi => by rw [Nat.zero_add]) ?_
       have Bw7 := Bw6
       clear Bw6)
    | (have hgo := Bw7; clear hgo
       go_at_call 44
       refine (refMul5_any Y Y _ HY.out HY.out).mono ?_
       rintro e w21 ⟨rfl, kk⟩
       replace r_t2 := World.rowIs.of_block r_t2 (kk.block _ (World.rowIs.lt r_t2))
       replace r_t5 := World.rowIs.of_block r_t5 (kk.block _ (World.rowIs.lt r_t5))
       have Bw8 := Bw7.trans (kk.mono (HGS.out _ Bw7))
       clear Bw7 kk)
    | (have hgo := Bw8; clear hgo
       refine wpList_alloc_row rfl 34 rfl 16 (u64f fun _ => 0) zeroFe ?_
       intro b_t7 w22 lk r_t7 kk
       have n_t2_t7 : b_t2 ≠ b_t7 := Nat.ne_of_lt (Nat.lt_of_lt_of_le (World.rowIs.lt r_t2) lk)
       have n_t5_t7 : b_t5 ≠ b_t7 := Nat.ne_of_lt (Nat.lt_of_lt_of_le (World.rowIs.lt r_t5) lk)
       have l_t7 := Nat.le_trans (HGS.out _ Bw8) lk
       replace r_t2 := World.rowIs.of_block r_t2 (kk.block _ (World.rowIs.lt r_t2))
       replace r_t5 := World.rowIs.of_block r_t5 (kk.block _ (World.rowIs.lt r_t5))
       have Bw9 := Bw8.trans (kk.mono (HGS.out _ Bw8))
       clear Bw8 kk lk)
    | (have hgo := Bw9; clear hgo
       refine wpList_store_as rfl 34 (.tmp 7) (.tmp 36) rfl 16 (feF (mulP Y Y)) arrFe r_t7 rfl rfl (by omega) (fun _ _ => rfl) (fun i hi => putN_whole hi) ?_
       intro w23 q gk
       replace r_t2 := gb_rowIs r_t2 gk n_t2_t7
       replace r_t5 := gb_rowIs r_t5 gk n_t5_t7
       replace r_t7 := q
       have Bw10 := Bw9.grown gk (HGS.out _ Bw9) (by intro k hk; cases hk; exact l_t7)
       clear Bw9 gk q))
  have Bw11 := Bw10.drew
  replace r_t2 := World.rowIs.drew r_t2
  replace r_t5 := World.rowIs.drew r_t5
  replace r_t7 := World.rowIs.drew r_t7
  clear Bw10
  refine wp_region_po (Keep []) (Keep.refl _) (fun _ _ _ h1 h2 => h1.trans h2) (.rd 0 .done) #[true, false, false, false, false] [1, 2, 3, 4] [some 38, some 39, some 8, none] [[], [0], [], [0, 1, 2]] [(0, []), (1, []), (2, [0, 1, 1]), (3, []), (4, [3, 2, 2, 0, 1, 2, 3])] 1 (by as_aux_lemma => kernel_rfl) (by as_aux_lemma => kernel_rfl) (by decide) (by as_aux_lemma => kernel_rfl) (by as_aux_lemma => kernel_rfl) (by as_aux_lemma => kernel_rfl) rfl (fun d _ _ _ _ h => by cases d <;> exact h) ?_
  refine lintz_pure 37 (Op.load 34 (Operand.tmp 7)) 34 (.agg (arrOf 16 (feF (mulP Y Y)))) rfl rfl rfl rfl rfl (fun w0 hb => by exact exec_load_as _ _ _ _ (feF (mulP Y Y)) rfl arrFe (Keep.row hb r_t7 rfl) (by omega) (fun i hi => by rw [Nat.zero_add])) ?_
  simp only [Act.put, List.setIfInBounds_toArray, List.set_cons_zero, List.set_cons_succ]
  refine lintz_leaf ?_
  have HWF : poWf [.val (.agg (arrOf 16 (feF 1))), .val (.agg (arrOf 16 (feF (subP p25 (mulP Y Y) 1)))), .row 34 16 (u64f fun _ => 0) 3 (feF (subP p25 (mulP Y Y) 1)), .nil] [] = true := by as_aux_lemma => kernel_rfl
  refine ⟨JG [.val (.agg (arrOf 16 (feF 1))), .val (.agg (arrOf 16 (feF (subP p25 (mulP Y Y) 1)))), .row 34 16 (u64f fun _ => 0) 3 (feF (subP p25 (mulP Y Y) 1)), .nil] [] _, JG.start (Nat.le_refl _) (fun i hi => absurd hi (Nat.not_lt_zero _)), fun m gz wa p az hp hm hmp hcl hdn hE hJ hS hO => ?_, fun gz wa hE hJ => ?_⟩
  · rcases (show p = 0 ∨ p = 1 ∨ p = 2 ∨ p = 3 by have h9 : p < 4 := hp; omega) with rfl | rfl | rfl | rfl
    · exact po_call 38 46 #[Operand.const (Value.int IntKind.u64 1)] #[24] _ HWF hJ rfl hE (refSmall_any 1 _ (by decide)) rfl rfl rfl rfl rfl Try.func46 (by kernel_rfl) (by kernel_rfl) (by simp only [List.map_toArray, List.map_cons, List.map_nil, eval_const, eval_func] <;> rfl)
    · have e37 : az.eval (.tmp 37) = .agg (arrOf 16 (feF (mulP Y Y))) := hO 37 rfl
      have e38 := (hS 0 38 rfl (hdn 0 (by decide)) (Nat.le_of_ble_eq_true rfl)).trans (hJ.says (hdn 0 (by decide)) rfl)
      exact po_call 39 45 #[Operand.tmp 37, Operand.tmp 38] #[34, 34] _ HWF hJ rfl hE (refSub_any (mulP Y Y) 1 _ (mulP_lt _ _) (by decide +kernel)) rfl rfl rfl rfl rfl Try.func45 (by kernel_rfl) (by kernel_rfl) (by simp only [List.map_toArray, List.map_cons, List.map_nil, eval_const, eval_func, e37, e38] <;> rfl)
    · exact po_alloc 8 _ 34 16 (u64f fun _ => 0) _ _ HWF hJ rfl (po_notyet hcl hmp (by rw [hm]; exact hp) (by decide)) hE rfl rfl rfl rfl rfl rfl zeroFe
    · have e39 := (hS 1 39 rfl (hdn 1 (by decide)) (Nat.le_of_ble_eq_true rfl)).trans (hJ.says (hdn 1 (by decide)) rfl)
      exact po_storeRow 2 (.tmp 8) (.tmp 39) 34 16 _ _ (by rw [hm]; exact hp) hmp hJ rfl rfl (hdn 2 (by decide)) (by kernel_rfl) (fun i hi => absurd hi (Nat.not_lt_zero _)) hE rfl rfl rfl rfl rfl (hS 2 8 rfl (hdn 2 (by decide)) (Nat.le_of_ble_eq_true rfl)) e39 arrFe (fun _ _ => rfl)
  · have q0 := hJ.told 0 (by decide) rfl
    have q1 := hJ.told 1 (by decide) rfl
    obtain ⟨b_t8, p_t8, lk_t8, r_t8, d_t8⟩ := hJ.row 2 (by decide) rfl (by decide)
    rw [putO_true _ _ _ _ _ rfl]
    simp only [putA, Nat.zero_add, Nat.reduceAdd]
    rw [q0, q1, p_t8]
    simp only [Act.put, List.setIfInBounds_toArray, List.set_cons_zero, List.set_cons_succ]
    refine po_end ?_
    have n_t2_t8 : b_t2 ≠ b_t8 := Nat.ne_of_lt (Nat.lt_of_lt_of_le (World.rowIs.lt r_t2) lk_t8)
    have n_t5_t8 : b_t5 ≠ b_t8 := Nat.ne_of_lt (Nat.lt_of_lt_of_le (World.rowIs.lt r_t5) lk_t8)
    have n_t7_t8 : b_t7 ≠ b_t8 := Nat.ne_of_lt (Nat.lt_of_lt_of_le (World.rowIs.lt r_t7) lk_t8)
    have l_t8 := Nat.le_trans (HGS.out _ Bw11) lk_t8
    replace r_t2 := Keep.row hE r_t2 rfl
    replace r_t5 := Keep.row hE r_t5 rfl
    replace r_t7 := Keep.row hE r_t7 rfl
    have Bw12 := hE.below Bw11 (HGS.out _ Bw11) rfl
    clear Bw11 hE hJ HWF q0 q1 p_t8 lk_t8 d_t8
    go_wp2
    have Bw13 := Bw12.drew
    replace r_t2 := World.rowIs.drew r_t2
    replace r_t5 := World.rowIs.drew r_t5
    replace r_t7 := World.rowIs.drew r_t7
    replace r_t8 := World.rowIs.drew r_t8
    clear Bw12
    refine wp_region_po (Keep []) (Keep.refl _) (fun _ _ _ h1 h2 => h1.trans h2) (.rd 1 .done) #[false, true, false, false, false, false, false] [0, 2, 3, 4, 5, 6] [some 40, some 42, some 43, some 44, some 9, none] [[], [0], [1], [1, 2], [], [0, 1, 2, 3, 4]] [(0, []), (1, []), (2, [0, 1, 0]), (3, [2]), (4, [2, 3, 3]), (5, []), (6, [5, 4, 4, 0, 1, 2, 3, 4, 5])] 2 (by as_aux_lemma => kernel_rfl) (by as_aux_lemma => kernel_rfl) (by decide) (by as_aux_lemma => kernel_rfl) (by as_aux_lemma => kernel_rfl) (by as_aux_lemma => kernel_rfl) rfl (fun d _ _ _ _ h => by cases d <;> exact h) ?_
    refine lintz_pure 41 (Op.load 34 (Operand.tmp 7)) 34 (.agg (arrOf 16 (feF (mulP Y Y)))) rfl rfl rfl rfl rfl (fun w0 hb => by exact exec_load_as _ _ _ _ (feF (mulP Y Y)) rfl arrFe (Keep.row hb r_t7 rfl) (by omega) (fun i hi => by rw [Nat.zero_add])) ?_
    simp only [Act.put, List.setIfInBounds_toArray, List.set_cons_zero, List.set_cons_succ]
    refine lintz_leaf ?_
    have HWF : poWf [.val (.agg (arrOf 16 (feF dP))), .val (.agg (arrOf 16 (feF (mulP dP (mulP Y Y))))), .val (.agg (arrOf 16 (feF 1))), .val (.agg (arrOf 16 (feF (addP (mulP dP (mulP Y Y)) 1)))), .row 34 16 (u64f fun _ => 0) 5 (feF (addP (mulP dP (mulP Y Y)) 1)), .nil] [] = true := by as_aux_lemma => kernel_rfl
    refine ⟨JG [.val (.agg (arrOf 16 (feF dP))), .val (.agg (arrOf 16 (feF (mulP dP (mulP Y Y))))), .val (.agg (arrOf 16 (feF 1))), .val (.agg (arrOf 16 (feF (addP (mulP dP (mulP Y Y)) 1)))), .row 34 16 (u64f fun _ => 0) 5 (feF (addP (mulP dP (mulP Y Y)) 1)), .nil] [] _, JG.start (Nat.le_refl _) (fun i hi => absurd hi (Nat.not_lt_zero _)), fun m gz wa p az hp hm hmp hcl hdn hE hJ hS hO => ?_, fun gz wa hE hJ => ?_⟩
    · rcases (show p = 0 ∨ p = 1 ∨ p = 2 ∨ p = 3 ∨ p = 4 ∨ p = 5 by have h9 : p < 6 := hp; omega) with rfl | rfl | rfl | rfl | rfl | rfl
      · exact po_call 40 47 #[] #[] _ HWF hJ rfl hE (curve_any _) rfl rfl rfl rfl rfl Try.func47 (by kernel_rfl) (by kernel_rfl) (by simp only [List.map_toArray, List.map_cons, List.map_nil, eval_const, eval_func] <;> rfl)
      · have e40 := (hS 0 40 rfl (hdn 0 (by decide)) (Nat.le_of_ble_eq_true rfl)).trans (hJ.says (hdn 0 (by decide)) rfl)
        have e41 : az.eval (.tmp 41) = .agg (arrOf 16 (feF (mulP Y Y))) := hO 41 rfl
        exact po_call 42 44 #[Operand.tmp 40, Operand.tmp 41] #[34, 34] _ HWF hJ rfl hE (refMul5_any dP (mulP Y Y) _ dP_lt (mulP_lt _ _)) rfl rfl rfl rfl rfl Try.func44 (by kernel_rfl) (by kernel_rfl) (by simp only [List.map_toArray, List.map_cons, List.map_nil, eval_const, eval_func, e40, e41] <;> rfl)
      · exact po_call 43 46 #[Operand.const (Value.int IntKind.u64 1)] #[24] _ HWF hJ rfl hE (refSmall_any 1 _ (by decide)) rfl rfl rfl rfl rfl Try.func46 (by kernel_rfl) (by kernel_rfl) (by simp only [List.map_toArray, List.map_cons, List.map_nil, eval_const, eval_func] <;> rfl)
      · have e42 := (hS 1 42 rfl (hdn 1 (by decide)) (Nat.le_of_ble_eq_true rfl)).trans (hJ.says (hdn 1 (by decide)) rfl)
        have e43 := (hS 2 43 rfl (hdn 2 (by decide)) (Nat.le_of_ble_eq_true rfl)).trans (hJ.says (hdn 2 (by decide)) rfl)
        exact po_call 44 48 #[Operand.tmp 42, Operand.tmp 43] #[34, 34] _ HWF hJ rfl hE (refAdd5_any (mulP dP (mulP Y Y)) 1 _ (mulP_lt _ _) (by decide +kernel)) rfl rfl rfl rfl rfl Try.func48 (by kernel_rfl) (by kernel_rfl) (by simp only [List.map_toArray, List.map_cons, List.map_nil, eval_const, eval_func, e42, e43] <;> rfl)
      · exact po_alloc 9 _ 34 16 (u64f fun _ => 0) _ _ HWF hJ rfl (po_notyet hcl hmp (by rw [hm]; exact hp) (by decide)) hE rfl rfl rfl rfl rfl rfl zeroFe
      · have e44 := (hS 3 44 rfl (hdn 3 (by decide)) (Nat.le_of_ble_eq_true rfl)).trans (hJ.says (hdn 3 (by decide)) rfl)
        exact po_storeRow 4 (.tmp 9) (.tmp 44) 34 16 _ _ (by rw [hm]; exact hp) hmp hJ rfl rfl (hdn 4 (by decide)) (by kernel_rfl) (fun i hi => absurd hi (Nat.not_lt_zero _)) hE rfl rfl rfl rfl rfl (hS 4 9 rfl (hdn 4 (by decide)) (Nat.le_of_ble_eq_true rfl)) e44 arrFe (fun _ _ => rfl)
    · have q0 := hJ.told 0 (by decide) rfl
      have q1 := hJ.told 1 (by decide) rfl
      have q2 := hJ.told 2 (by decide) rfl
      have q3 := hJ.told 3 (by decide) rfl
      obtain ⟨b_t9, p_t9, lk_t9, r_t9, d_t9⟩ := hJ.row 4 (by decide) rfl (by decide)
      rw [putO_true _ _ _ _ _ rfl]
      simp only [putA, Nat.zero_add, Nat.reduceAdd]
      rw [q0, q1, q2, q3, p_t9]
      simp only [Act.put, List.setIfInBounds_toArray, List.set_cons_zero, List.set_cons_succ]
      refine po_end ?_
      have n_t2_t9 : b_t2 ≠ b_t9 := Nat.ne_of_lt (Nat.lt_of_lt_of_le (World.rowIs.lt r_t2) lk_t9)
      have n_t5_t9 : b_t5 ≠ b_t9 := Nat.ne_of_lt (Nat.lt_of_lt_of_le (World.rowIs.lt r_t5) lk_t9)
      have n_t7_t9 : b_t7 ≠ b_t9 := Nat.ne_of_lt (Nat.lt_of_lt_of_le (World.rowIs.lt r_t7) lk_t9)
      have n_t8_t9 : b_t8 ≠ b_t9 := Nat.ne_of_lt (Nat.lt_of_lt_of_le (World.rowIs.lt r_t8) lk_t9)
      have l_t9 := Nat.le_trans (HGS.out _ Bw13) lk_t9
      replace r_t2 := Keep.row hE r_t2 rfl
      replace r_t5 := Keep.row hE r_t5 rfl
      replace r_t7 := Keep.row hE r_t7 rfl
      replace r_t8 := Keep.row hE r_t8 rfl
      have Bw14 := hE.below Bw13 (HGS.out _ Bw13) rfl
      clear Bw13 hE hJ HWF q0 q1 q2 q3 p_t9 lk_t9 d_t9
      go_wp2
      have Bw15 := Bw14.drew
      replace r_t2 := World.rowIs.drew r_t2
      replace r_t5 := World.rowIs.drew r_t5
      replace r_t7 := World.rowIs.drew r_t7
      replace r_t8 := World.rowIs.drew r_t8
      replace r_t9 := World.rowIs.drew r_t9
      clear Bw14
      refine wp_region_po (Keep []) (Keep.refl _) (fun _ _ _ h1 h2 => h1.trans h2) (.rd 0 (.rd 1 .done)) #[true, true, false, false, false, false, false, false, false, false, false] [2, 3, 4, 5, 6, 7, 8, 9, 10] [some 48, some 49, some 50, some 45, some 51, some 52, some 10, none, some 11] [[], [0], [1], [2], [3], [3], [], [0, 1, 2, 3, 4, 6], [0, 1, 2, 3, 4, 5, 6, 7]] [(0, []), (1, []), (2, [1]), (3, [0, 2, 2]), (4, [3, 3]), (5, [4]), (6, [5]), (7, [5]), (8, []), (9, [8, 6, 4, 0, 1, 2, 3, 4, 5, 6, 8]), (10, [7, 9, 0, 1, 2, 3, 4, 5, 6, 7, 8, 9])] 3 (by as_aux_lemma => kernel_rfl) (by as_aux_lemma => kernel_rfl) (by decide) (by as_aux_lemma => kernel_rfl) (by as_aux_lemma => kernel_rfl) (by as_aux_lemma => kernel_rfl) rfl (fun d _ _ _ _ h => by cases d <;> exact h) ?_
      refine lintz_pure 46 (Op.load 34 (Operand.tmp 8)) 34 (.agg (arrOf 16 (feF (subP p25 (mulP Y Y) 1)))) rfl rfl rfl rfl rfl (fun w0 hb => by exact exec_load_as _ _ _ _ (feF (subP p25 (mulP Y Y) 1)) rfl arrFe (Keep.row hb r_t8 rfl) (by omega) (fun i hi => by rw [Nat.zero_add])) ?_
      simp only [Act.put, List.setIfInBounds_toArray, List.set_cons_zero, List.set_cons_succ]
      refine lintz_pure 47 (Op.load 34 (Operand.tmp 9)) 34 (.agg (arrOf 16 (feF (addP (mulP dP (mulP Y Y)) 1)))) rfl rfl rfl rfl rfl (fun w0 hb => by exact exec_load_as _ _ _ _ (feF (addP (mulP dP (mulP Y Y)) 1)) rfl arrFe (Keep.row hb r_t9 rfl) (by omega) (fun i hi => by rw [Nat.zero_add])) ?_
      simp only [Act.put, List.setIfInBounds_toArray, List.set_cons_zero, List.set_cons_succ]
      refine lintz_leaf ?_
      have HWF : poWf [.val (.agg (arrOf 16 (feF (invP (addP (mulP dP (mulP Y Y)) 1))))), .val (.agg (arrOf 16 (feF (mulP (subP p25 (mulP Y Y) 1) (invP (addP (mulP dP (mulP Y Y)) 1)))))), .val (.tuple #[.agg (arrOf 16 (feF x)), .int .i64 0]), .val (.tuple #[.agg (arrOf 16 (feF x)), .int .i64 0]), .val (.agg (arrOf 16 (feF x))), .val (.int .i64 0), .row 34 16 (u64f fun _ => 0) 7 (feF x), .nil, .val (.int .i64 0)] [] = true := by as_aux_lemma => kernel_rfl
      refine ⟨JG [.val (.agg (arrOf 16 (feF (invP (addP (mulP dP (mulP Y Y)) 1))))), .val (.agg (arrOf 16 (feF (mulP (subP p25 (mulP Y Y) 1) (invP (addP (mulP dP (mulP Y Y)) 1)))))), .val (.tuple #[.agg (arrOf 16 (feF x)), .int .i64 0]), .val (.tuple #[.agg (arrOf 16 (feF x)), .int .i64 0]), .val (.agg (arrOf 16 (feF x))), .val (.int .i64 0), .row 34 16 (u64f fun _ => 0) 7 (feF x), .nil, .val (.int .i64 0)] [] _, JG.start (Nat.le_refl _) (fun i hi => absurd hi (Nat.not_lt_zero _)), fun m gz wa p az hp hm hmp hcl hdn hE hJ hS hO => ?_, fun gz wa hE hJ => ?_⟩
      · rcases (show p = 0 ∨ p = 1 ∨ p = 2 ∨ p = 3 ∨ p = 4 ∨ p = 5 ∨ p = 6 ∨ p = 7 ∨ p = 8 by have h9 : p < 9 := hp; omega) with rfl | rfl | rfl | rfl | rfl | rfl | rfl | rfl | rfl
        · have e47 : az.eval (.tmp 47) = .agg (arrOf 16 (feF (addP (mulP dP (mulP Y Y)) 1))) := hO 47 rfl
          exact po_call 48 49 #[Operand.tmp 47] #[34] _ HWF hJ rfl hE (refInv5_any (addP (mulP dP (mulP Y Y)) 1) _ (addP_lt _ _)) rfl rfl rfl rfl rfl Try.func49 (by kernel_rfl) (by kernel_rfl) (by simp only [List.map_toArray, List.map_cons, List.map_nil, eval_const, eval_func, e47] <;> rfl)
        · have e46 : az.eval (.tmp 46) = .agg (arrOf 16 (feF (subP p25 (mulP Y Y) 1))) := hO 46 rfl
          have e48 := (hS 0 48 rfl (hdn 0 (by decide)) (Nat.le_of_ble_eq_true rfl)).trans (hJ.says (hdn 0 (by decide)) rfl)
          exact po_call 49 44 #[Operand.tmp 46, Operand.tmp 48] #[34, 34] _ HWF hJ rfl hE (refMul5_any (subP p25 (mulP Y Y) 1) (invP (addP (mulP dP (mulP Y Y)) 1)) _ (subP_lt _ _) (invP_lt _)) rfl rfl rfl rfl rfl Try.func44 (by kernel_rfl) (by kernel_rfl) (by simp only [List.map_toArray, List.map_cons, List.map_nil, eval_const, eval_func, e46, e48] <;> rfl)
        · have e49 := (hS 1 49 rfl (hdn 1 (by decide)) (Nat.le_of_ble_eq_true rfl)).trans (hJ.says (hdn 1 (by decide)) rfl)
          exact po_call 50 50 #[Operand.tmp 49] #[34] _ HWF hJ rfl hE (HRT.out _) rfl rfl rfl rfl rfl Try.func50 (by kernel_rfl) (by kernel_rfl) (by simp only [List.map_toArray, List.map_cons, List.map_nil, eval_const, eval_func, e49] <;> rfl)
        · have e50 := (hS 2 50 rfl (hdn 2 (by decide)) (Nat.le_of_ble_eq_true rfl)).trans (hJ.says (hdn 2 (by decide)) rfl)
          exact po_run 45 (Op.move (Operand.tmp 50)) _ HWF hJ rfl hE rfl rfl rfl rfl rfl rfl (by first | (simp only [execOp, mkOp, eval_const, e50]; done) | (simp only [execOp, mkOp, eval_const, e50]; go_simp))
        · have e45 := (hS 3 45 rfl (hdn 3 (by decide)) (Nat.le_of_ble_eq_true rfl)).trans (hJ.says (hdn 3 (by decide)) rfl)
          exact po_run 51 (Op.extract (Operand.tmp 45) 0) _ HWF hJ rfl hE rfl rfl rfl rfl rfl rfl (by first | (simp only [execOp, mkOp, eval_const, e45]; done) | (simp only [execOp, mkOp, eval_const, e45]; go_simp))
        · have e45 := (hS 3 45 rfl (hdn 3 (by decide)) (Nat.le_of_ble_eq_true rfl)).trans (hJ.says (hdn 3 (by decide)) rfl)
          exact po_run 52 (Op.extract (Operand.tmp 45) 1) _ HWF hJ rfl hE rfl rfl rfl rfl rfl rfl (by first | (simp only [execOp, mkOp, eval_const, e45]; done) | (simp only [execOp, mkOp, eval_const, e45]; go_simp))
        · exact po_alloc 10 _ 34 16 (u64f fun _ => 0) _ _ HWF hJ rfl (po_notyet hcl hmp (by rw [hm]; exact hp) (by decide)) hE rfl rfl rfl rfl rfl rfl zeroFe
        · have e51 := (hS 4 51 rfl (hdn 4 (by decide)) (Nat.le_of_ble_eq_true rfl)).trans (hJ.says (hdn 4 (by decide)) rfl)
          exact po_storeRow 6 (.tmp 10) (.tmp 51) 34 16 _ _ (by rw [hm]; exact hp) hmp hJ rfl rfl (hdn 6 (by decide)) (by kernel_rfl) (fun i hi => absurd hi (Nat.not_lt_zero _)) hE rfl rfl rfl rfl rfl (hS 6 10 rfl (hdn 6 (by decide)) (Nat.le_of_ble_eq_true rfl)) e51 arrFe (fun _ _ => rfl)
        · have e52 := (hS 5 52 rfl (hdn 5 (by decide)) (Nat.le_of_ble_eq_true rfl)).trans (hJ.says (hdn 5 (by decide)) rfl)
          exact po_run 11 (Op.assign (Operand.tmp 52)) _ HWF hJ rfl hE rfl rfl rfl rfl rfl rfl (by first | (simp only [execOp, mkOp, eval_const, e52]; done) | (simp only [execOp, mkOp, eval_const, e52]; go_simp))
      · have q0 := hJ.told 0 (by decide) rfl
        have q1 := hJ.told 1 (by decide) rfl
        have q2 := hJ.told 2 (by decide) rfl
        have q3 := hJ.told 3 (by decide) rfl
        have q4 := hJ.told 4 (by decide) rfl
        have q5 := hJ.told 5 (by decide) rfl
        obtain ⟨b_t10, p_t10, lk_t10, r_t10, d_t10⟩ := hJ.row 6 (by decide) rfl (by decide)
        have q8 := hJ.told 8 (by decide) rfl
        rw [putO_true _ _ _ _ _ rfl]
        simp only [putA, Nat.zero_add, Nat.reduceAdd]
        rw [q0, q1, q2, q3, q4, q5, p_t10, q8]
        simp only [Act.put, List.setIfInBounds_toArray, List.set_cons_zero, List.set_cons_succ]
        refine po_end ?_
        have n_t2_t10 : b_t2 ≠ b_t10 := Nat.ne_of_lt (Nat.lt_of_lt_of_le (World.rowIs.lt r_t2) lk_t10)
        have n_t5_t10 : b_t5 ≠ b_t10 := Nat.ne_of_lt (Nat.lt_of_lt_of_le (World.rowIs.lt r_t5) lk_t10)
        have n_t7_t10 : b_t7 ≠ b_t10 := Nat.ne_of_lt (Nat.lt_of_lt_of_le (World.rowIs.lt r_t7) lk_t10)
        have n_t8_t10 : b_t8 ≠ b_t10 := Nat.ne_of_lt (Nat.lt_of_lt_of_le (World.rowIs.lt r_t8) lk_t10)
        have n_t9_t10 : b_t9 ≠ b_t10 := Nat.ne_of_lt (Nat.lt_of_lt_of_le (World.rowIs.lt r_t9) lk_t10)
        have l_t10 := Nat.le_trans (HGS.out _ Bw15) lk_t10
        replace r_t2 := Keep.row hE r_t2 rfl
        replace r_t5 := Keep.row hE r_t5 rfl
        replace r_t7 := Keep.row hE r_t7 rfl
        replace r_t8 := Keep.row hE r_t8 rfl
        replace r_t9 := Keep.row hE r_t9 rfl
        have Bw16 := hE.below Bw15 (HGS.out _ Bw15) rfl
        clear Bw15 hE hJ HWF q0 q1 q2 q3 q4 q5 q8 p_t10 lk_t10 d_t10
        go_wp2_with (first
          | (have hgo := Bw16; clear hgo
             refine wpList_load_cat rfl (.tmp 54) rfl (HC31.out _ Bw16) rfl ?_
             have Bw17 := Bw16
             clear Bw16)
          | (have hgo := Bw17; clear hgo
             refine wpList_shr7 rfl (.tmp 55) (.const (.int .u64 7)) rfl rfl rfl HSH.out HQL.out ?_
             have Bw18 := Bw17
             clear Bw17)
          | (have hgo := Bw18; clear hgo
             refine wpList_load_given rfl 34 (.tmp 10) rfl 16 arrFe r_t10 rfl (by omega) ?_
             simp only [Nat.zero_add]
             have Bw19 := Bw18
             clear Bw18)
          | (have hgo := Bw19; clear hgo
             refine wpList_value_given rfl (.agg (arrOf 16 (feF 0))) (by rw [exec_mkOp]; exact exec_zeroFe _ _) ?_
             have Bw20 := Bw19
             clear Bw19)
          | (have hgo := Bw20; clear hgo
             refine wpList_value_given rfl (.bool true) (by rw [exec_mkOp]; exact exec_Fe_eq2 _ _ _ _ Hx.out p25_pos (decide_eq_true HX0.out) rfl rfl) ?_
             have Bw21 := Bw20
             clear Bw20))
        have Bw22 := Bw21.drew
        replace r_t2 := World.rowIs.drew r_t2
        replace r_t5 := World.rowIs.drew r_t5
        replace r_t7 := World.rowIs.drew r_t7
        replace r_t8 := World.rowIs.drew r_t8
        replace r_t9 := World.rowIs.drew r_t9
        replace r_t10 := World.rowIs.drew r_t10
        clear Bw21
        refine wp_region_po (Keep [b_t2]) (Keep.refl _) (fun _ _ _ h1 h2 => h1.trans h2) (.rd 0 (.rd 1 .done)) #[true, true, false, false, false, false] [2, 3, 4, 5] [some 74, some 75, none, some 3] [[], [0], [0, 1], [0, 1, 2]] [(0, []), (1, []), (2, []), (3, [0, 1, 2]), (4, [3, 2, 0, 1, 2, 3]), (5, [4, 0, 1, 2, 3, 4])] 3 (by as_aux_lemma => kernel_rfl) (by as_aux_lemma => kernel_rfl) (by decide) (by as_aux_lemma => kernel_rfl) (by as_aux_lemma => kernel_rfl) (by as_aux_lemma => kernel_rfl) rfl (fun d _ _ _ _ h => by cases d <;> exact h) ?_
        refine lintz_pure 72 (Op.load 34 (Operand.tmp 10)) 34 (.agg (arrOf 16 (feF x))) rfl rfl rfl rfl rfl (fun w0 hb => by exact exec_load_as _ _ _ _ (feF x) rfl arrFe (Keep.row hb r_t10 (cont1 (Ne.symm n_t2_t10))) (by omega) (fun i hi => by rw [Nat.zero_add])) ?_
        simp only [Act.put, List.setIfInBounds_toArray, List.set_cons_zero, List.set_cons_succ]
        refine lintz_pure 73 (Op.load 34 (Operand.tmp 5)) 34 (.agg (arrOf 16 (feF Y))) rfl rfl rfl rfl rfl (fun w0 hb => by exact exec_load_as _ _ _ _ (feF Y) rfl arrFe (Keep.row hb r_t5 (cont1 (Ne.symm n_t2_t5))) (by omega) (fun i hi => by rw [Nat.zero_add])) ?_
        simp only [Act.put, List.setIfInBounds_toArray, List.set_cons_zero, List.set_cons_succ]
        refine lintz_leaf ?_
        have HWF : poWf [.val (.agg (arrOf 16 (feF 1))), .val (.agg (arrOf 48 (ptF x Y 1))), .nil, .val ((.int .i64 0))] [⟨b_t2, 36, 48, (u64f fun _ => 0), 2, (ptF x Y 1)⟩] = true := by as_aux_lemma => kernel_rfl
        refine ⟨JG [.val (.agg (arrOf 16 (feF 1))), .val (.agg (arrOf 48 (ptF x Y 1))), .nil, .val ((.int .i64 0))] [⟨b_t2, 36, 48, (u64f fun _ => 0), 2, (ptF x Y 1)⟩] _, JG.start (Nat.le_refl _) (fun i hi => by obtain rfl : i = 0 := by { have h9 : i < 1 := hi; omega }; exact r_t2), fun m gz wa p az hp hm hmp hcl hdn hE hJ hS hO => ?_, fun gz wa hE hJ => ?_⟩
        · rcases (show p = 0 ∨ p = 1 ∨ p = 2 ∨ p = 3 by have h9 : p < 4 := hp; omega) with rfl | rfl | rfl | rfl
          · exact po_call 74 46 #[Operand.const (Value.int IntKind.u64 1)] #[24] _ HWF hJ rfl hE (refSmall_any 1 _ (by decide)) rfl rfl rfl rfl rfl Try.func46 (by kernel_rfl) (by kernel_rfl) (by simp only [List.map_toArray, List.map_cons, List.map_nil, eval_const, eval_func] <;> rfl)
          · have e72 : az.eval (.tmp 72) = .agg (arrOf 16 (feF x)) := hO 72 rfl
            have e73 : az.eval (.tmp 73) = .agg (arrOf 16 (feF Y)) := hO 73 rfl
            have e74 := (hS 0 74 rfl (hdn 0 (by decide)) (Nat.le_of_ble_eq_true rfl)).trans (hJ.says (hdn 0 (by decide)) rfl)
            exact po_run 75 (Op.build 36 #[(0, Operand.tmp 72), (1, Operand.tmp 73), (2, Operand.tmp 74)]) _ HWF hJ rfl hE rfl rfl rfl rfl rfl rfl (exec_build_as _ _ _ (by simp only [List.map_toArray, List.map_cons, List.map_nil, e72, e73, e74]; exact builtP x Y 1))
          · have e75 := (hS 1 75 rfl (hdn 1 (by decide)) (Nat.le_of_ble_eq_true rfl)).trans (hJ.says (hdn 1 (by decide)) rfl)
            exact po_storeOld 0 (.tmp 2) (.tmp 75) 36 b_t2 48 _ (by rw [hm]; exact hp) hmp hJ rfl (show 0 < 1 by decide) rfl rfl rfl rfl rfl (World.rowIs.lt r_t2) (by simp) (by kernel_rfl) po_ne1 hE rfl rfl rfl rfl rfl (hO 2 rfl) e75 arrP (fun j _ => ptF_one _ _ _ j)
          · exact po_run 3 (Op.assign (Operand.const (Value.int IntKind.i64 0))) _ HWF hJ rfl hE rfl rfl rfl rfl rfl rfl (by first | (simp only [execOp, mkOp, eval_const]; done) | (simp only [execOp, mkOp, eval_const]; go_simp))
        · have q0 := hJ.told 0 (by decide) rfl
          have q1 := hJ.told 1 (by decide) rfl
          have q3 := hJ.told 3 (by decide) rfl
          rw [putO_true _ _ _ _ _ rfl]
          simp only [putA, Nat.zero_add, Nat.reduceAdd]
          rw [q0, q1, q3]
          simp only [Act.put, List.setIfInBounds_toArray, List.set_cons_zero, List.set_cons_succ]
          refine po_end ?_
          replace r_t2 : wa.rowIs b_t2 36 48 (ptF x Y 1) := hJ.old 0 (show 0 < 1 by decide) (show 2 < 4 by decide)
          replace r_t5 := Keep.row hE r_t5 (cont1 (Ne.symm n_t2_t5))
          replace r_t7 := Keep.row hE r_t7 (cont1 (Ne.symm n_t2_t7))
          replace r_t8 := Keep.row hE r_t8 (cont1 (Ne.symm n_t2_t8))
          replace r_t9 := Keep.row hE r_t9 (cont1 (Ne.symm n_t2_t9))
          replace r_t10 := Keep.row hE r_t10 (cont1 (Ne.symm n_t2_t10))
          have Bw23 := hE.below Bw22 (HGS.out _ Bw22) (keep_all1 l_t2)
          clear Bw22 hE hJ HWF q0 q1 q3
          go_wp2
          exact ret_cell_as_tmp _ rfl arrP r_t2 rfl rfl (by omega) (fun _ _ => rfl) rfl ⟨by rw [HYv.out]; rfl, Bw23⟩
set_option maxHeartbeats 4000000 in
set_option maxRecDepth 10000 in
theorem refDecode_6 (v0 : Value) (l0 : List UInt8) (w : World) (h0 : Bs w v0 l0) (hl : l0.length = 32) (hYl : numL l0 32 % top < p25) (x : Nat) (hx : decX (numL l0 32 % top) = some x) (ho : numL l0 32 / top = 0) (hx0 : x ≠ 0) : Calls Try.prog 11 #[v0] w fun e w' => e = .returned (.tuple #[.agg (arrOf 48 (ptF x (numL l0 32 % top) 1)), .int .i64 0]) ∧ Below w.heap.size w w' := by
  have HYL := Lib.hid hYl
  have HX_ := Lib.hid hx
  clear hYl hx
  have HO_ := Lib.hid ho
  clear ho
  obtain ⟨gb, off, c0, rfl, y0, z0, hgb, hcells⟩ := h0.open_n hl (by decide)
  have HL := Lib.hid hl
  have HF0 := Lib.hid h0
  obtain ⟨q, hq⟩ := nat_var ((l0.getD 31 0).toNat)
  have hql : q < 256 := by rw [hq]; exact UInt8.toNat_lt _
  have a1 := and127N q hql
  obtain ⟨u, hu⟩ := nat_var (q % 128)
  rw [← hu] at a1
  have a2 : (q : Int) % 128 = (u : Int) := by omega
  have HUL : Hid (u < 256) := Lib.hid (by omega)
  have HQL := Lib.hid hql
  have HSG : Hid (numL l0 32 / top = q / 128) := Lib.hid (by rw [(numL_cut l0 hl).2, ← hq])
  have HCB : Hid (cutB l0 = l0.set 31 (UInt8.ofNat u)) := Lib.hid (by rw [hu, hq]; rfl)
  obtain ⟨CL, hCL⟩ : ∃ C, C = cutB l0 := ⟨_, rfl⟩
  have HCL := Lib.hid hCL
  rw [← hCL] at HCB
  have HQ : Hid (∀ h : 31 < l0.length, (l0[31]'h).toNat = q) := Lib.hid fun h => by rw [hq, List.getD_eq_getElem?_getD, List.getElem?_eq_getElem h]; rfl
  have HC31 : Hid (∀ W, Below w.heap.size w W → W.cell? ⟨gb, off + 31, none⟩ = some (.int .u8 (q : Int))) := Lib.hid fun W hW => (bs_cell (h0.below hW (Nat.le_refl _)) 31 (by rw [hl]; decide)).trans (by rw [HQ.out])
  clear hCL hq hql hu hcells h0 hl
  have hx := HX_.out
  clear HX_
  have ho := HO_.out
  clear HO_
  obtain ⟨Y, hYv⟩ := nat_var (numL l0 32 % top)
  have HYv : Hid (numL l0 32 % top = Y) := Lib.hid hYv.symm
  have HY : Hid (Y < p25) := Lib.hid (by rw [hYv]; exact HYL.out)
  rw [← hYv] at hx
  have HRT := Lib.hid fun w => refRoot_some (decS Y) x w (decS_lt Y) hx
  unfold decS at HRT
  have Hx : Hid (x < p25) := Lib.hid (rootL_some prime_p25 t25_eq (decS_lt Y) hx).2.2
  have HX0 := Lib.hid hx0
  have HSH : Hid (0 = q / 128) := Lib.hid (ho.symm.trans HSG.out)
  clear ho hx0
  clear hx hYv HSG HYL
  have Bw0 := Below.refl w.heap.size w
  have HGS : Hid (∀ wq : World, Below w.heap.size w wq → w.heap.size ≤ wq.heap.size) := Lib.hid fun wq h => h.size
  go_enter Try.func11, Try.ntmps11
  go_wp2_with (first
    | (have hgo := Bw0; clear hgo
       refine wpList_alloc_row rfl 36 rfl 48 (u64f fun _ => 0) zeroPt ?_
       intro b_t2 w1 lk r_t2 kk
       have l_t2 := Nat.le_trans (HGS.out _ Bw0) lk
       have Bw1 := Bw0.trans (kk.mono (HGS.out _ Bw0))
       clear Bw0 kk lk
       have O1 := Owns.empty w1
       have k1 := (Below.refl w1.heap.size w1).alloc (Nat.le_refl _) (.cells #[] 5)
       have F1 := (HF0.out.below Bw1 (Nat.le_refl _)).below k1 (Nat.le_refl _))
    | (have hgo := Bw1; clear hgo
       refine wpList_app rfl (.tmp 17) (.tmp 18) rfl w1.heap.size _ _ [] l0 O1 F1 rfl rfl (by simp [HL.out]) (by simp) ?_
       intro v2 w2 ho hgr
       obtain ⟨g, cap, hv, hg, hgs, _, _⟩ := (show Owns w2 w1.heap.size v2 l0 from ho).open_cons (by rw [HL.out]; decide)
       rw [HL.out] at hv
       subst hv
       have o2 : Owns w2 w1.heap.size (.slice (some ⟨g, 0, none⟩) 32 cap) l0 := ho
       have hcap := owns_cap o2
       have C2 := k1.grown hgr (by simp) (fun k hk => by simp [Value.ownBlock] at hk; omega)
       clear O1 F1 k1 ho hgr)
    | (refine wpList_load_byte rfl (.tmp 22) rfl 31 q o2 HL.out.symm (by rw [HL.out]; decide) rfl (HQ.out _) ?_)
    | (refine wpList_store_byte rfl (.tmp 25) (.tmp 24) rfl 31 u o2 HL.out.symm hcap (by rw [HL.out]; decide) rfl rfl HUL.out ?_
       intro w3 o3 g3
       have C3 := C2.grown g3 C2.size (by intro k hk; cases hk; exact hg)
       have Bw2 := Bw1.trans (C3.mono (HGS.out _ Bw1))
       replace r_t2 := World.rowIs.of_block r_t2 (C3.block _ (World.rowIs.lt r_t2))
       rw [← HCB.out] at o3
       have f_c := o3.bs
       clear o2 C2 C3 Bw1 g3 o3)
    | (have hgo := Bw2; clear hgo
       go_at_call 43
       refine (refStrict_cut _ l0 CL Y _ f_c HCL.out HL.out HYv.out HY.out).mono ?_
       rintro e w12 ⟨rfl, kk⟩
       replace r_t2 := World.rowIs.of_block r_t2 (kk.block _ (World.rowIs.lt r_t2))
       have Bw3 := Bw2.trans (kk.mono (HGS.out _ Bw2))
       clear Bw2 kk)
    | (have hgo := Bw3; clear hgo
       refine wpList_alloc_row rfl 34 rfl 16 (u64f fun _ => 0) zeroFe ?_
       intro b_t5 w16 lk r_t5 kk
       have n_t2_t5 : b_t2 ≠ b_t5 := Nat.ne_of_lt (Nat.lt_of_lt_of_le (World.rowIs.lt r_t2) lk)
       have l_t5 := Nat.le_trans (HGS.out _ Bw3) lk
       replace r_t2 := World.rowIs.of_block r_t2 (kk.block _ (World.rowIs.lt r_t2))
       have Bw4 := Bw3.trans (kk.mono (HGS.out _ Bw3))
       clear Bw3 kk lk)
    | (have hgo := Bw4; clear hgo
       refine wpList_store_as rfl 34 (.tmp 5) (.tmp 29) rfl 16 (feF Y) arrFe r_t5 rfl rfl (by omega) (fun _ _ => rfl) (fun i hi => putN_whole hi) ?_
       intro w17 q gk
       replace r_t2 := gb_rowIs r_t2 gk n_t2_t5
       replace r_t5 := q
       have Bw5 := Bw4.grown gk (HGS.out _ Bw4) (by intro k hk; cases hk; exact l_t5)
       clear Bw4 gk q)
    | (have hgo := Bw5; clear hgo
       refine wpList_load_as rfl 34 (.tmp 5) rfl 16 (feF Y) arrFe r_t5 rfl (by omega) (fun i hi => by rw [Nat.zero_add]) ?_
       have Bw6 := Bw5
       clear Bw5)
    | (have hgo := Bw6; clear hgo
       refine wpList_load_as rfl 34 (.tmp 5) rfl 16 (feF Y) arrFe r_t5 rfl (by omega) (fun i hi => by rw [Nat.zero_add]) ?_
       have Bw7 := Bw6
       clear Bw6)
    | (have hgo := Bw7; clear hgo
       go_at_call 44
       refine (refMul5_any Y Y _ HY.out HY.out).mono ?_
       rintro e w21 ⟨rfl, kk⟩
       replace r_t2 := World.rowIs.of_block r_t2 (kk.block _ (World.rowIs.lt r_t2))
       replace r_t5 := World.rowIs.of_block r_t5 (kk.block _ (World.rowIs.lt r_t5))
       have Bw8 := Bw7.trans (kk.mono (HGS.out _ Bw7))
       clear Bw7 kk)
    | (have hgo := Bw8; clear hgo
       refine wpList_alloc_row rfl 34 rfl 16 (u64f fun _ => 0) zeroFe ?_
       intro b_t7 w22 lk r_t7 kk
       have n_t2_t7 : b_t2 ≠ b_t7 := Nat.ne_of_lt (Nat.lt_of_lt_of_le (World.rowIs.lt r_t2) lk)
       have n_t5_t7 : b_t5 ≠ b_t7 := Nat.ne_of_lt (Nat.lt_of_lt_of_le (World.rowIs.lt r_t5) lk)
       have l_t7 := Nat.le_trans (HGS.out _ Bw8) lk
       replace r_t2 := World.rowIs.of_block r_t2 (kk.block _ (World.rowIs.lt r_t2))
       replace r_t5 := World.rowIs.of_block r_t5 (kk.block _ (World.rowIs.lt r_t5))
       have Bw9 := Bw8.trans (kk.mono (HGS.out _ Bw8))
       clear Bw8 kk lk)
    | (have hgo := Bw9; clear hgo
       refine wpList_store_as rfl 34 (.tmp 7) (.tmp 36) rfl 16 (feF (mulP Y Y)) arrFe r_t7 rfl rfl (by omega) (fun _ _ => rfl) (fun i hi => putN_whole hi) ?_
       intro w23 q gk
       replace r_t2 := gb_rowIs r_t2 gk n_t2_t7
       replace r_t5 := gb_rowIs r_t5 gk n_t5_t7
       replace r_t7 := q
       have Bw10 := Bw9.grown gk (HGS.out _ Bw9) (by intro k hk; cases hk; exact l_t7)
       clear Bw9 gk q))
  have Bw11 := Bw10.drew
  replace r_t2 := World.rowIs.drew r_t2
  replace r_t5 := World.rowIs.drew r_t5
  replace r_t7 := World.rowIs.drew r_t7
  clear Bw10
  refine wp_region_po (Keep []) (Keep.refl _) (fun _ _ _ h1 h2 => h1.trans h2) (.rd 0 .done) #[true, false, false, false, false] [1, 2, 3, 4] [some 38, some 39, some 8, none] [[], [0], [], [0, 1, 2]] [(0, []), (1, []), (2, [0, 1, 1]), (3, []), (4, [3, 2, 2, 0, 1, 2, 3])] 1 (by as_aux_lemma => kernel_rfl) (by as_aux_lemma => kernel_rfl) (by decide) (by as_aux_lemma => kernel_rfl) (by as_aux_lemma => kernel_rfl) (by as_aux_lemma => kernel_rfl) rfl (fun d _ _ _ _ h => by cases d <;> exact h) ?_
  refine lintz_pure 37 (Op.load 34 (Operand.tmp 7)) 34 (.agg (arrOf 16 (feF (mulP Y Y)))) rfl rfl rfl rfl rfl (fun w0 hb => by exact exec_load_as _ _ _ _ (feF (mulP Y Y)) rfl arrFe (Keep.row hb r_t7 rfl) (by omega) (fun i hi => by rw [Nat.zero_add])) ?_
  simp only [Act.put, List.setIfInBounds_toArray, List.set_cons_zero, List.set_cons_succ]
  refine lintz_leaf ?_
  have HWF : poWf [.val (.agg (arrOf 16 (feF 1))), .val (.agg (arrOf 16 (feF (subP p25 (mulP Y Y) 1)))), .row 34 16 (u64f fun _ => 0) 3 (feF (subP p25 (mulP Y Y) 1)), .nil] [] = true := by as_aux_lemma => kernel_rfl
  refine ⟨JG [.val (.agg (arrOf 16 (feF 1))), .val (.agg (arrOf 16 (feF (subP p25 (mulP Y Y) 1)))), .row 34 16 (u64f fun _ => 0) 3 (feF (subP p25 (mulP Y Y) 1)), .nil] [] _, JG.start (Nat.le_refl _) (fun i hi => absurd hi (Nat.not_lt_zero _)), fun m gz wa p az hp hm hmp hcl hdn hE hJ hS hO => ?_, fun gz wa hE hJ => ?_⟩
  · rcases (show p = 0 ∨ p = 1 ∨ p = 2 ∨ p = 3 by have h9 : p < 4 := hp; omega) with rfl | rfl | rfl | rfl
    · exact po_call 38 46 #[Operand.const (Value.int IntKind.u64 1)] #[24] _ HWF hJ rfl hE (refSmall_any 1 _ (by decide)) rfl rfl rfl rfl rfl Try.func46 (by kernel_rfl) (by kernel_rfl) (by simp only [List.map_toArray, List.map_cons, List.map_nil, eval_const, eval_func] <;> rfl)
    · have e37 : az.eval (.tmp 37) = .agg (arrOf 16 (feF (mulP Y Y))) := hO 37 rfl
      have e38 := (hS 0 38 rfl (hdn 0 (by decide)) (Nat.le_of_ble_eq_true rfl)).trans (hJ.says (hdn 0 (by decide)) rfl)
      exact po_call 39 45 #[Operand.tmp 37, Operand.tmp 38] #[34, 34] _ HWF hJ rfl hE (refSub_any (mulP Y Y) 1 _ (mulP_lt _ _) (by decide +kernel)) rfl rfl rfl rfl rfl Try.func45 (by kernel_rfl) (by kernel_rfl) (by simp only [List.map_toArray, List.map_cons, List.map_nil, eval_const, eval_func, e37, e38] <;> rfl)
    · exact po_alloc 8 _ 34 16 (u64f fun _ => 0) _ _ HWF hJ rfl (po_notyet hcl hmp (by rw [hm]; exact hp) (by decide)) hE rfl rfl rfl rfl rfl rfl zeroFe
    · have e39 := (hS 1 39 rfl (hdn 1 (by decide)) (Nat.le_of_ble_eq_true rfl)).trans (hJ.says (hdn 1 (by decide)) rfl)
      exact po_storeRow 2 (.tmp 8) (.tmp 39) 34 16 _ _ (by rw [hm]; exact hp) hmp hJ rfl rfl (hdn 2 (by decide)) (by kernel_rfl) (fun i hi => absurd hi (Nat.not_lt_zero _)) hE rfl rfl rfl rfl rfl (hS 2 8 rfl (hdn 2 (by decide)) (Nat.le_of_ble_eq_true rfl)) e39 arrFe (fun _ _ => rfl)
  · have q0 := hJ.told 0 (by decide) rfl
    have q1 := hJ.told 1 (by decide) rfl
    obtain ⟨b_t8, p_t8, lk_t8, r_t8, d_t8⟩ := hJ.row 2 (by decide) rfl (by decide)
    rw [putO_true _ _ _ _ _ rfl]
    simp only [putA, Nat.zero_add, Nat.reduceAdd]
    rw [q0, q1, p_t8]
    simp only [Act.put, List.setIfInBounds_toArray, List.set_cons_zero, List.set_cons_succ]
    refine po_end ?_
    have n_t2_t8 : b_t2 ≠ b_t8 := Nat.ne_of_lt (Nat.lt_of_lt_of_le (World.rowIs.lt r_t2) lk_t8)
    have n_t5_t8 : b_t5 ≠ b_t8 := Nat.ne_of_lt (Nat.lt_of_lt_of_le (World.rowIs.lt r_t5) lk_t8)
    have n_t7_t8 : b_t7 ≠ b_t8 := Nat.ne_of_lt (Nat.lt_of_lt_of_le (World.rowIs.lt r_t7) lk_t8)
    have l_t8 := Nat.le_trans (HGS.out _ Bw11) lk_t8
    replace r_t2 := Keep.row hE r_t2 rfl
    replace r_t5 := Keep.row hE r_t5 rfl
    replace r_t7 := Keep.row hE r_t7 rfl
    have Bw12 := hE.below Bw11 (HGS.out _ Bw11) rfl
    clear Bw11 hE hJ HWF q0 q1 p_t8 lk_t8 d_t8
    go_wp2
    have Bw13 := Bw12.drew
    replace r_t2 := World.rowIs.drew r_t2
    replace r_t5 := World.rowIs.drew r_t5
    replace r_t7 := World.rowIs.drew r_t7
    replace r_t8 := World.rowIs.drew r_t8
    clear Bw12
    refine wp_region_po (Keep []) (Keep.refl _) (fun _ _ _ h1 h2 => h1.trans h2) (.rd 1 .done) #[false, true, false, false, false, false, false] [0, 2, 3, 4, 5, 6] [some 40, some 42, some 43, some 44, some 9, none] [[], [0], [1], [1, 2], [], [0, 1, 2, 3, 4]] [(0, []), (1, []), (2, [0, 1, 0]), (3, [2]), (4, [2, 3, 3]), (5, []), (6, [5, 4, 4, 0, 1, 2, 3, 4, 5])] 2 (by as_aux_lemma => kernel_rfl) (by as_aux_lemma => kernel_rfl) (by decide) (by as_aux_lemma => kernel_rfl) (by as_aux_lemma => kernel_rfl) (by as_aux_lemma => kernel_rfl) rfl (fun d _ _ _ _ h => by cases d <;> exact h) ?_
    refine lintz_pure 41 (Op.load 34 (Operand.tmp 7)) 34 (.agg (arrOf 16 (feF (mulP Y Y)))) rfl rfl rfl rfl rfl (fun w0 hb => by exact exec_load_as _ _ _ _ (feF (mulP Y Y)) rfl arrFe (Keep.row hb r_t7 rfl) (by omega) (fun i hi => by rw [Nat.zero_add])) ?_
    simp only [Act.put, List.setIfInBounds_toArray, List.set_cons_zero, List.set_cons_succ]
    refine lintz_leaf ?_
    have HWF : poWf [.val (.agg (arrOf 16 (feF dP))), .val (.agg (arrOf 16 (feF (mulP dP (mulP Y Y))))), .val (.agg (arrOf 16 (feF 1))), .val (.agg (arrOf 16 (feF (addP (mulP dP (mulP Y Y)) 1)))), .row 34 16 (u64f fun _ => 0) 5 (feF (addP (mulP dP (mulP Y Y)) 1)), .nil] [] = true := by as_aux_lemma => kernel_rfl
    refine ⟨JG [.val (.agg (arrOf 16 (feF dP))), .val (.agg (arrOf 16 (feF (mulP dP (mulP Y Y))))), .val (.agg (arrOf 16 (feF 1))), .val (.agg (arrOf 16 (feF (addP (mulP dP (mulP Y Y)) 1)))), .row 34 16 (u64f fun _ => 0) 5 (feF (addP (mulP dP (mulP Y Y)) 1)), .nil] [] _, JG.start (Nat.le_refl _) (fun i hi => absurd hi (Nat.not_lt_zero _)), fun m gz wa p az hp hm hmp hcl hdn hE hJ hS hO => ?_, fun gz wa hE hJ => ?_⟩
    · rcases (show p = 0 ∨ p = 1 ∨ p = 2 ∨ p = 3 ∨ p = 4 ∨ p = 5 by have h9 : p < 6 := hp; omega) with rfl | rfl | rfl | rfl | rfl | rfl
      · exact po_call 40 47 #[] #[] _ HWF hJ rfl hE (curve_any _) rfl rfl rfl rfl rfl Try.func47 (by kernel_rfl) (by kernel_rfl) (by simp only [List.map_toArray, List.map_cons, List.map_nil, eval_const, eval_func] <;> rfl)
      · have e40 := (hS 0 40 rfl (hdn 0 (by decide)) (Nat.le_of_ble_eq_true rfl)).trans (hJ.says (hdn 0 (by decide)) rfl)
        have e41 : az.eval (.tmp 41) = .agg (arrOf 16 (feF (mulP Y Y))) := hO 41 rfl
        exact po_call 42 44 #[Operand.tmp 40, Operand.tmp 41] #[34, 34] _ HWF hJ rfl hE (refMul5_any dP (mulP Y Y) _ dP_lt (mulP_lt _ _)) rfl rfl rfl rfl rfl Try.func44 (by kernel_rfl) (by kernel_rfl) (by simp only [List.map_toArray, List.map_cons, List.map_nil, eval_const, eval_func, e40, e41] <;> rfl)
      · exact po_call 43 46 #[Operand.const (Value.int IntKind.u64 1)] #[24] _ HWF hJ rfl hE (refSmall_any 1 _ (by decide)) rfl rfl rfl rfl rfl Try.func46 (by kernel_rfl) (by kernel_rfl) (by simp only [List.map_toArray, List.map_cons, List.map_nil, eval_const, eval_func] <;> rfl)
      · have e42 := (hS 1 42 rfl (hdn 1 (by decide)) (Nat.le_of_ble_eq_true rfl)).trans (hJ.says (hdn 1 (by decide)) rfl)
        have e43 := (hS 2 43 rfl (hdn 2 (by decide)) (Nat.le_of_ble_eq_true rfl)).trans (hJ.says (hdn 2 (by decide)) rfl)
        exact po_call 44 48 #[Operand.tmp 42, Operand.tmp 43] #[34, 34] _ HWF hJ rfl hE (refAdd5_any (mulP dP (mulP Y Y)) 1 _ (mulP_lt _ _) (by decide +kernel)) rfl rfl rfl rfl rfl Try.func48 (by kernel_rfl) (by kernel_rfl) (by simp only [List.map_toArray, List.map_cons, List.map_nil, eval_const, eval_func, e42, e43] <;> rfl)
      · exact po_alloc 9 _ 34 16 (u64f fun _ => 0) _ _ HWF hJ rfl (po_notyet hcl hmp (by rw [hm]; exact hp) (by decide)) hE rfl rfl rfl rfl rfl rfl zeroFe
      · have e44 := (hS 3 44 rfl (hdn 3 (by decide)) (Nat.le_of_ble_eq_true rfl)).trans (hJ.says (hdn 3 (by decide)) rfl)
        exact po_storeRow 4 (.tmp 9) (.tmp 44) 34 16 _ _ (by rw [hm]; exact hp) hmp hJ rfl rfl (hdn 4 (by decide)) (by kernel_rfl) (fun i hi => absurd hi (Nat.not_lt_zero _)) hE rfl rfl rfl rfl rfl (hS 4 9 rfl (hdn 4 (by decide)) (Nat.le_of_ble_eq_true rfl)) e44 arrFe (fun _ _ => rfl)
    · have q0 := hJ.told 0 (by decide) rfl
      have q1 := hJ.told 1 (by decide) rfl
      have q2 := hJ.told 2 (by decide) rfl
      have q3 := hJ.told 3 (by decide) rfl
      obtain ⟨b_t9, p_t9, lk_t9, r_t9, d_t9⟩ := hJ.row 4 (by decide) rfl (by decide)
      rw [putO_true _ _ _ _ _ rfl]
      simp only [putA, Nat.zero_add, Nat.reduceAdd]
      rw [q0, q1, q2, q3, p_t9]
      simp only [Act.put, List.setIfInBounds_toArray, List.set_cons_zero, List.set_cons_succ]
      refine po_end ?_
      have n_t2_t9 : b_t2 ≠ b_t9 := Nat.ne_of_lt (Nat.lt_of_lt_of_le (World.rowIs.lt r_t2) lk_t9)
      have n_t5_t9 : b_t5 ≠ b_t9 := Nat.ne_of_lt (Nat.lt_of_lt_of_le (World.rowIs.lt r_t5) lk_t9)
      have n_t7_t9 : b_t7 ≠ b_t9 := Nat.ne_of_lt (Nat.lt_of_lt_of_le (World.rowIs.lt r_t7) lk_t9)
      have n_t8_t9 : b_t8 ≠ b_t9 := Nat.ne_of_lt (Nat.lt_of_lt_of_le (World.rowIs.lt r_t8) lk_t9)
      have l_t9 := Nat.le_trans (HGS.out _ Bw13) lk_t9
      replace r_t2 := Keep.row hE r_t2 rfl
      replace r_t5 := Keep.row hE r_t5 rfl
      replace r_t7 := Keep.row hE r_t7 rfl
      replace r_t8 := Keep.row hE r_t8 rfl
      have Bw14 := hE.below Bw13 (HGS.out _ Bw13) rfl
      clear Bw13 hE hJ HWF q0 q1 q2 q3 p_t9 lk_t9 d_t9
      go_wp2
      have Bw15 := Bw14.drew
      replace r_t2 := World.rowIs.drew r_t2
      replace r_t5 := World.rowIs.drew r_t5
      replace r_t7 := World.rowIs.drew r_t7
      replace r_t8 := World.rowIs.drew r_t8
      replace r_t9 := World.rowIs.drew r_t9
      clear Bw14
      refine wp_region_po (Keep []) (Keep.refl _) (fun _ _ _ h1 h2 => h1.trans h2) (.rd 0 (.rd 1 .done)) #[true, true, false, false, false, false, false, false, false, false, false] [2, 3, 4, 5, 6, 7, 8, 9, 10] [some 48, some 49, some 50, some 45, some 51, some 52, some 10, none, some 11] [[], [0], [1], [2], [3], [3], [], [0, 1, 2, 3, 4, 6], [0, 1, 2, 3, 4, 5, 6, 7]] [(0, []), (1, []), (2, [1]), (3, [0, 2, 2]), (4, [3, 3]), (5, [4]), (6, [5]), (7, [5]), (8, []), (9, [8, 6, 4, 0, 1, 2, 3, 4, 5, 6, 8]), (10, [7, 9, 0, 1, 2, 3, 4, 5, 6, 7, 8, 9])] 3 (by as_aux_lemma => kernel_rfl) (by as_aux_lemma => kernel_rfl) (by decide) (by as_aux_lemma => kernel_rfl) (by as_aux_lemma => kernel_rfl) (by as_aux_lemma => kernel_rfl) rfl (fun d _ _ _ _ h => by cases d <;> exact h) ?_
      refine lintz_pure 46 (Op.load 34 (Operand.tmp 8)) 34 (.agg (arrOf 16 (feF (subP p25 (mulP Y Y) 1)))) rfl rfl rfl rfl rfl (fun w0 hb => by exact exec_load_as _ _ _ _ (feF (subP p25 (mulP Y Y) 1)) rfl arrFe (Keep.row hb r_t8 rfl) (by omega) (fun i hi => by rw [Nat.zero_add])) ?_
      simp only [Act.put, List.setIfInBounds_toArray, List.set_cons_zero, List.set_cons_succ]
      refine lintz_pure 47 (Op.load 34 (Operand.tmp 9)) 34 (.agg (arrOf 16 (feF (addP (mulP dP (mulP Y Y)) 1)))) rfl rfl rfl rfl rfl (fun w0 hb => by exact exec_load_as _ _ _ _ (feF (addP (mulP dP (mulP Y Y)) 1)) rfl arrFe (Keep.row hb r_t9 rfl) (by omega) (fun i hi => by rw [Nat.zero_add])) ?_
      simp only [Act.put, List.setIfInBounds_toArray, List.set_cons_zero, List.set_cons_succ]
      refine lintz_leaf ?_
      have HWF : poWf [.val (.agg (arrOf 16 (feF (invP (addP (mulP dP (mulP Y Y)) 1))))), .val (.agg (arrOf 16 (feF (mulP (subP p25 (mulP Y Y) 1) (invP (addP (mulP dP (mulP Y Y)) 1)))))), .val (.tuple #[.agg (arrOf 16 (feF x)), .int .i64 0]), .val (.tuple #[.agg (arrOf 16 (feF x)), .int .i64 0]), .val (.agg (arrOf 16 (feF x))), .val (.int .i64 0), .row 34 16 (u64f fun _ => 0) 7 (feF x), .nil, .val (.int .i64 0)] [] = true := by as_aux_lemma => kernel_rfl
      refine ⟨JG [.val (.agg (arrOf 16 (feF (invP (addP (mulP dP (mulP Y Y)) 1))))), .val (.agg (arrOf 16 (feF (mulP (subP p25 (mulP Y Y) 1) (invP (addP (mulP dP (mulP Y Y)) 1)))))), .val (.tuple #[.agg (arrOf 16 (feF x)), .int .i64 0]), .val (.tuple #[.agg (arrOf 16 (feF x)), .int .i64 0]), .val (.agg (arrOf 16 (feF x))), .val (.int .i64 0), .row 34 16 (u64f fun _ => 0) 7 (feF x), .nil, .val (.int .i64 0)] [] _, JG.start (Nat.le_refl _) (fun i hi => absurd hi (Nat.not_lt_zero _)), fun m gz wa p az hp hm hmp hcl hdn hE hJ hS hO => ?_, fun gz wa hE hJ => ?_⟩
      · rcases (show p = 0 ∨ p = 1 ∨ p = 2 ∨ p = 3 ∨ p = 4 ∨ p = 5 ∨ p = 6 ∨ p = 7 ∨ p = 8 by have h9 : p < 9 := hp; omega) with rfl | rfl | rfl | rfl | rfl | rfl | rfl | rfl | rfl
        · have e47 : az.eval (.tmp 47) = .agg (arrOf 16 (feF (addP (mulP dP (mulP Y Y)) 1))) := hO 47 rfl
          exact po_call 48 49 #[Operand.tmp 47] #[34] _ HWF hJ rfl hE (refInv5_any (addP (mulP dP (mulP Y Y)) 1) _ (addP_lt _ _)) rfl rfl rfl rfl rfl Try.func49 (by kernel_rfl) (by kernel_rfl) (by simp only [List.map_toArray, List.map_cons, List.map_nil, eval_const, eval_func, e47] <;> rfl)
        · have e46 : az.eval (.tmp 46) = .agg (arrOf 16 (feF (subP p25 (mulP Y Y) 1))) := hO 46 rfl
          have e48 := (hS 0 48 rfl (hdn 0 (by decide)) (Nat.le_of_ble_eq_true rfl)).trans (hJ.says (hdn 0 (by decide)) rfl)
          exact po_call 49 44 #[Operand.tmp 46, Operand.tmp 48] #[34, 34] _ HWF hJ rfl hE (refMul5_any (subP p25 (mulP Y Y) 1) (invP (addP (mulP dP (mulP Y Y)) 1)) _ (subP_lt _ _) (invP_lt _)) rfl rfl rfl rfl rfl Try.func44 (by kernel_rfl) (by kernel_rfl) (by simp only [List.map_toArray, List.map_cons, List.map_nil, eval_const, eval_func, e46, e48] <;> rfl)
        · have e49 := (hS 1 49 rfl (hdn 1 (by decide)) (Nat.le_of_ble_eq_true rfl)).trans (hJ.says (hdn 1 (by decide)) rfl)
          exact po_call 50 50 #[Operand.tmp 49] #[34] _ HWF hJ rfl hE (HRT.out _) rfl rfl rfl rfl rfl Try.func50 (by kernel_rfl) (by kernel_rfl) (by simp only [List.map_toArray, List.map_cons, List.map_nil, eval_const, eval_func, e49] <;> rfl)
        · have e50 := (hS 2 50 rfl (hdn 2 (by decide)) (Nat.le_of_ble_eq_true rfl)).trans (hJ.says (hdn 2 (by decide)) rfl)
          exact po_run 45 (Op.move (Operand.tmp 50)) _ HWF hJ rfl hE rfl rfl rfl rfl rfl rfl (by first | (simp only [execOp, mkOp, eval_const, e50]; done) | (simp only [execOp, mkOp, eval_const, e50]; go_simp))
        · have e45 := (hS 3 45 rfl (hdn 3 (by decide)) (Nat.le_of_ble_eq_true rfl)).trans (hJ.says (hdn 3 (by decide)) rfl)
          exact po_run 51 (Op.extract (Operand.tmp 45) 0) _ HWF hJ rfl hE rfl rfl rfl rfl rfl rfl (by first | (simp only [execOp, mkOp, eval_const, e45]; done) | (simp only [execOp, mkOp, eval_const, e45]; go_simp))
        · have e45 := (hS 3 45 rfl (hdn 3 (by decide)) (Nat.le_of_ble_eq_true rfl)).trans (hJ.says (hdn 3 (by decide)) rfl)
          exact po_run 52 (Op.extract (Operand.tmp 45) 1) _ HWF hJ rfl hE rfl rfl rfl rfl rfl rfl (by first | (simp only [execOp, mkOp, eval_const, e45]; done) | (simp only [execOp, mkOp, eval_const, e45]; go_simp))
        · exact po_alloc 10 _ 34 16 (u64f fun _ => 0) _ _ HWF hJ rfl (po_notyet hcl hmp (by rw [hm]; exact hp) (by decide)) hE rfl rfl rfl rfl rfl rfl zeroFe
        · have e51 := (hS 4 51 rfl (hdn 4 (by decide)) (Nat.le_of_ble_eq_true rfl)).trans (hJ.says (hdn 4 (by decide)) rfl)
          exact po_storeRow 6 (.tmp 10) (.tmp 51) 34 16 _ _ (by rw [hm]; exact hp) hmp hJ rfl rfl (hdn 6 (by decide)) (by kernel_rfl) (fun i hi => absurd hi (Nat.not_lt_zero _)) hE rfl rfl rfl rfl rfl (hS 6 10 rfl (hdn 6 (by decide)) (Nat.le_of_ble_eq_true rfl)) e51 arrFe (fun _ _ => rfl)
        · have e52 := (hS 5 52 rfl (hdn 5 (by decide)) (Nat.le_of_ble_eq_true rfl)).trans (hJ.says (hdn 5 (by decide)) rfl)
          exact po_run 11 (Op.assign (Operand.tmp 52)) _ HWF hJ rfl hE rfl rfl rfl rfl rfl rfl (by first | (simp only [execOp, mkOp, eval_const, e52]; done) | (simp only [execOp, mkOp, eval_const, e52]; go_simp))
      · have q0 := hJ.told 0 (by decide) rfl
        have q1 := hJ.told 1 (by decide) rfl
        have q2 := hJ.told 2 (by decide) rfl
        have q3 := hJ.told 3 (by decide) rfl
        have q4 := hJ.told 4 (by decide) rfl
        have q5 := hJ.told 5 (by decide) rfl
        obtain ⟨b_t10, p_t10, lk_t10, r_t10, d_t10⟩ := hJ.row 6 (by decide) rfl (by decide)
        have q8 := hJ.told 8 (by decide) rfl
        rw [putO_true _ _ _ _ _ rfl]
        simp only [putA, Nat.zero_add, Nat.reduceAdd]
        rw [q0, q1, q2, q3, q4, q5, p_t10, q8]
        simp only [Act.put, List.setIfInBounds_toArray, List.set_cons_zero, List.set_cons_succ]
        refine po_end ?_
        have n_t2_t10 : b_t2 ≠ b_t10 := Nat.ne_of_lt (Nat.lt_of_lt_of_le (World.rowIs.lt r_t2) lk_t10)
        have n_t5_t10 : b_t5 ≠ b_t10 := Nat.ne_of_lt (Nat.lt_of_lt_of_le (World.rowIs.lt r_t5) lk_t10)
        have n_t7_t10 : b_t7 ≠ b_t10 := Nat.ne_of_lt (Nat.lt_of_lt_of_le (World.rowIs.lt r_t7) lk_t10)
        have n_t8_t10 : b_t8 ≠ b_t10 := Nat.ne_of_lt (Nat.lt_of_lt_of_le (World.rowIs.lt r_t8) lk_t10)
        have n_t9_t10 : b_t9 ≠ b_t10 := Nat.ne_of_lt (Nat.lt_of_lt_of_le (World.rowIs.lt r_t9) lk_t10)
        have l_t10 := Nat.le_trans (HGS.out _ Bw15) lk_t10
        replace r_t2 := Keep.row hE r_t2 rfl
        replace r_t5 := Keep.row hE r_t5 rfl
        replace r_t7 := Keep.row hE r_t7 rfl
        replace r_t8 := Keep.row hE r_t8 rfl
        replace r_t9 := Keep.row hE r_t9 rfl
        have Bw16 := hE.below Bw15 (HGS.out _ Bw15) rfl
        clear Bw15 hE hJ HWF q0 q1 q2 q3 q4 q5 q8 p_t10 lk_t10 d_t10
        go_wp2_with (first
          | (have hgo := Bw16; clear hgo
             refine wpList_load_cat rfl (.tmp 54) rfl (HC31.out _ Bw16) rfl ?_
             have Bw17 := Bw16
             clear Bw16)
          | (have hgo := Bw17; clear hgo
             refine wpList_shr7 rfl (.tmp 55) (.const (.int .u64 7)) rfl rfl rfl HSH.out HQL.out ?_
             have Bw18 := Bw17
             clear Bw17)
          | (have hgo := Bw18; clear hgo
             refine wpList_load_given rfl 34 (.tmp 10) rfl 16 arrFe r_t10 rfl (by omega) ?_
             simp only [Nat.zero_add]
             have Bw19 := Bw18
             clear Bw18)
          | (have hgo := Bw19; clear hgo
             refine wpList_value_given rfl (.agg (arrOf 16 (feF 0))) (by rw [exec_mkOp]; exact exec_zeroFe _ _) ?_
             have Bw20 := Bw19
             clear Bw19)
          | (have hgo := Bw20; clear hgo
             refine wpList_value_given rfl (.bool false) (by rw [exec_mkOp]; exact exec_Fe_eq2 _ _ _ _ Hx.out p25_pos (decide_eq_false HX0.out) rfl rfl) ?_
             have Bw21 := Bw20
             clear Bw20))
        have Bw22 := Bw21.drew
        replace r_t2 := World.rowIs.drew r_t2
        replace r_t5 := World.rowIs.drew r_t5
        replace r_t7 := World.rowIs.drew r_t7
        replace r_t8 := World.rowIs.drew r_t8
        replace r_t9 := World.rowIs.drew r_t9
        replace r_t10 := World.rowIs.drew r_t10
        clear Bw21
        refine wp_region_po (Keep [b_t2]) (Keep.refl _) (fun _ _ _ h1 h2 => h1.trans h2) (.rd 0 (.rd 1 .done)) #[true, true, false, false, false, false] [2, 3, 4, 5] [some 74, some 75, none, some 3] [[], [0], [0, 1], [0, 1, 2]] [(0, []), (1, []), (2, []), (3, [0, 1, 2]), (4, [3, 2, 0, 1, 2, 3]), (5, [4, 0, 1, 2, 3, 4])] 3 (by as_aux_lemma => kernel_rfl) (by as_aux_lemma => kernel_rfl) (by decide) (by as_aux_lemma => kernel_rfl) (by as_aux_lemma => kernel_rfl) (by as_aux_lemma => kernel_rfl) rfl (fun d _ _ _ _ h => by cases d <;> exact h) ?_
        refine lintz_pure 72 (Op.load 34 (Operand.tmp 10)) 34 (.agg (arrOf 16 (feF x))) rfl rfl rfl rfl rfl (fun w0 hb => by exact exec_load_as _ _ _ _ (feF x) rfl arrFe (Keep.row hb r_t10 (cont1 (Ne.symm n_t2_t10))) (by omega) (fun i hi => by rw [Nat.zero_add])) ?_
        simp only [Act.put, List.setIfInBounds_toArray, List.set_cons_zero, List.set_cons_succ]
        refine lintz_pure 73 (Op.load 34 (Operand.tmp 5)) 34 (.agg (arrOf 16 (feF Y))) rfl rfl rfl rfl rfl (fun w0 hb => by exact exec_load_as _ _ _ _ (feF Y) rfl arrFe (Keep.row hb r_t5 (cont1 (Ne.symm n_t2_t5))) (by omega) (fun i hi => by rw [Nat.zero_add])) ?_
        simp only [Act.put, List.setIfInBounds_toArray, List.set_cons_zero, List.set_cons_succ]
        refine lintz_leaf ?_
        have HWF : poWf [.val (.agg (arrOf 16 (feF 1))), .val (.agg (arrOf 48 (ptF x Y 1))), .nil, .val ((.int .i64 0))] [⟨b_t2, 36, 48, (u64f fun _ => 0), 2, (ptF x Y 1)⟩] = true := by as_aux_lemma => kernel_rfl
        refine ⟨JG [.val (.agg (arrOf 16 (feF 1))), .val (.agg (arrOf 48 (ptF x Y 1))), .nil, .val ((.int .i64 0))] [⟨b_t2, 36, 48, (u64f fun _ => 0), 2, (ptF x Y 1)⟩] _, JG.start (Nat.le_refl _) (fun i hi => by obtain rfl : i = 0 := by { have h9 : i < 1 := hi; omega }; exact r_t2), fun m gz wa p az hp hm hmp hcl hdn hE hJ hS hO => ?_, fun gz wa hE hJ => ?_⟩
        · rcases (show p = 0 ∨ p = 1 ∨ p = 2 ∨ p = 3 by have h9 : p < 4 := hp; omega) with rfl | rfl | rfl | rfl
          · exact po_call 74 46 #[Operand.const (Value.int IntKind.u64 1)] #[24] _ HWF hJ rfl hE (refSmall_any 1 _ (by decide)) rfl rfl rfl rfl rfl Try.func46 (by kernel_rfl) (by kernel_rfl) (by simp only [List.map_toArray, List.map_cons, List.map_nil, eval_const, eval_func] <;> rfl)
          · have e72 : az.eval (.tmp 72) = .agg (arrOf 16 (feF x)) := hO 72 rfl
            have e73 : az.eval (.tmp 73) = .agg (arrOf 16 (feF Y)) := hO 73 rfl
            have e74 := (hS 0 74 rfl (hdn 0 (by decide)) (Nat.le_of_ble_eq_true rfl)).trans (hJ.says (hdn 0 (by decide)) rfl)
            exact po_run 75 (Op.build 36 #[(0, Operand.tmp 72), (1, Operand.tmp 73), (2, Operand.tmp 74)]) _ HWF hJ rfl hE rfl rfl rfl rfl rfl rfl (exec_build_as _ _ _ (by simp only [List.map_toArray, List.map_cons, List.map_nil, e72, e73, e74]; exact builtP x Y 1))
          · have e75 := (hS 1 75 rfl (hdn 1 (by decide)) (Nat.le_of_ble_eq_true rfl)).trans (hJ.says (hdn 1 (by decide)) rfl)
            exact po_storeOld 0 (.tmp 2) (.tmp 75) 36 b_t2 48 _ (by rw [hm]; exact hp) hmp hJ rfl (show 0 < 1 by decide) rfl rfl rfl rfl rfl (World.rowIs.lt r_t2) (by simp) (by kernel_rfl) po_ne1 hE rfl rfl rfl rfl rfl (hO 2 rfl) e75 arrP (fun j _ => ptF_one _ _ _ j)
          · exact po_run 3 (Op.assign (Operand.const (Value.int IntKind.i64 0))) _ HWF hJ rfl hE rfl rfl rfl rfl rfl rfl (by first | (simp only [execOp, mkOp, eval_const]; done) | (simp only [execOp, mkOp, eval_const]; go_simp))
        · have q0 := hJ.told 0 (by decide) rfl
          have q1 := hJ.told 1 (by decide) rfl
          have q3 := hJ.told 3 (by decide) rfl
          rw [putO_true _ _ _ _ _ rfl]
          simp only [putA, Nat.zero_add, Nat.reduceAdd]
          rw [q0, q1, q3]
          simp only [Act.put, List.setIfInBounds_toArray, List.set_cons_zero, List.set_cons_succ]
          refine po_end ?_
          replace r_t2 : wa.rowIs b_t2 36 48 (ptF x Y 1) := hJ.old 0 (show 0 < 1 by decide) (show 2 < 4 by decide)
          replace r_t5 := Keep.row hE r_t5 (cont1 (Ne.symm n_t2_t5))
          replace r_t7 := Keep.row hE r_t7 (cont1 (Ne.symm n_t2_t7))
          replace r_t8 := Keep.row hE r_t8 (cont1 (Ne.symm n_t2_t8))
          replace r_t9 := Keep.row hE r_t9 (cont1 (Ne.symm n_t2_t9))
          replace r_t10 := Keep.row hE r_t10 (cont1 (Ne.symm n_t2_t10))
          have Bw23 := hE.below Bw22 (HGS.out _ Bw22) (keep_all1 l_t2)
          clear Bw22 hE hJ HWF q0 q1 q3
          go_wp2
          exact ret_cell_as_tmp _ rfl arrP r_t2 rfl rfl (by omega) (fun _ _ => rfl) rfl ⟨by rw [HYv.out]; rfl, Bw23⟩
set_option maxHeartbeats 4000000 in
set_option maxRecDepth 10000 in
theorem refDecode_7 (v0 : Value) (l0 : List UInt8) (w : World) (h0 : Bs w v0 l0) (hl : l0.length = 32) (hYl : numL l0 32 % top < p25) (x : Nat) (hx : decX (numL l0 32 % top) = some x) (ho : numL l0 32 / top = 1) (hx0 : x ≠ 0) : Calls Try.prog 11 #[v0] w fun e w' => e = .returned (.tuple #[.agg (arrOf 48 (ptF (oppP x) (numL l0 32 % top) 1)), .int .i64 0]) ∧ Below w.heap.size w w' := by
  have HYL := Lib.hid hYl
  have HX_ := Lib.hid hx
  clear hYl hx
  have HO_ := Lib.hid ho
  clear ho
  obtain ⟨gb, off, c0, rfl, y0, z0, hgb, hcells⟩ := h0.open_n hl (by decide)
  have HL := Lib.hid hl
  have HF0 := Lib.hid h0
  obtain ⟨q, hq⟩ := nat_var ((l0.getD 31 0).toNat)
  have hql : q < 256 := by rw [hq]; exact UInt8.toNat_lt _
  have a1 := and127N q hql
  obtain ⟨u, hu⟩ := nat_var (q % 128)
  rw [← hu] at a1
  have a2 : (q : Int) % 128 = (u : Int) := by omega
  have HUL : Hid (u < 256) := Lib.hid (by omega)
  have HQL := Lib.hid hql
  have HSG : Hid (numL l0 32 / top = q / 128) := Lib.hid (by rw [(numL_cut l0 hl).2, ← hq])
  have HCB : Hid (cutB l0 = l0.set 31 (UInt8.ofNat u)) := Lib.hid (by rw [hu, hq]; rfl)
  obtain ⟨CL, hCL⟩ : ∃ C, C = cutB l0 := ⟨_, rfl⟩
  have HCL := Lib.hid hCL
  rw [← hCL] at HCB
  have HQ : Hid (∀ h : 31 < l0.length, (l0[31]'h).toNat = q) := Lib.hid fun h => by rw [hq, List.getD_eq_getElem?_getD, List.getElem?_eq_getElem h]; rfl
  have HC31 : Hid (∀ W, Below w.heap.size w W → W.cell? ⟨gb, off + 31, none⟩ = some (.int .u8 (q : Int))) := Lib.hid fun W hW => (bs_cell (h0.below hW (Nat.le_refl _)) 31 (by rw [hl]; decide)).trans (by rw [HQ.out])
  clear hCL hq hql hu hcells h0 hl
  have hx := HX_.out
  clear HX_
  have ho := HO_.out
  clear HO_
  obtain ⟨Y, hYv⟩ := nat_var (numL l0 32 % top)
  have HYv : Hid (numL l0 32 % top = Y) := Lib.hid hYv.symm
  have HY : Hid (Y < p25) := Lib.hid (by rw [hYv]; exact HYL.out)
  rw [← hYv] at hx
  have HRT := Lib.hid fun w => refRoot_some (decS Y) x w (decS_lt Y) hx
  unfold decS at HRT
  have Hx : Hid (x < p25) := Lib.hid (rootL_some prime_p25 t25_eq (decS_lt Y) hx).2.2
  have HX0 := Lib.hid hx0
  have HSH : Hid (1 = q / 128) := Lib.hid (ho.symm.trans HSG.out)
  clear ho hx0
  clear hx hYv HSG HYL
  have Bw0 := Below.refl w.heap.size w
  have HGS : Hid (∀ wq : World, Below w.heap.size w wq → w.heap.size ≤ wq.heap.size) := Lib.hid fun wq h => h.size
  go_enter Try.func11, Try.ntmps11
  go_wp2_with (first
    | (have hgo := Bw0; clear hgo
       refine wpList_alloc_row rfl 36 rfl 48 (u64f fun _ => 0) zeroPt ?_
       intro b_t2 w1 lk r_t2 kk
       have l_t2 := Nat.le_trans (HGS.out _ Bw0) lk
       have Bw1 := Bw0.trans (kk.mono (HGS.out _ Bw0))
       clear Bw0 kk lk
       have O1 := Owns.empty w1
       have k1 := (Below.refl w1.heap.size w1).alloc (Nat.le_refl _) (.cells #[] 5)
       have F1 := (HF0.out.below Bw1 (Nat.le_refl _)).below k1 (Nat.le_refl _))
    | (have hgo := Bw1; clear hgo
       refine wpList_app rfl (.tmp 17) (.tmp 18) rfl w1.heap.size _ _ [] l0 O1 F1 rfl rfl (by simp [HL.out]) (by simp) ?_
       intro v2 w2 ho hgr
       obtain ⟨g, cap, hv, hg, hgs, _, _⟩ := (show Owns w2 w1.heap.size v2 l0 from ho).open_cons (by rw [HL.out]; decide)
       rw [HL.out] at hv
       subst hv
       have o2 : Owns w2 w1.heap.size (.slice (some ⟨g, 0, none⟩) 32 cap) l0 := ho
       have hcap := owns_cap o2
       have C2 := k1.grown hgr (by simp) (fun k hk => by simp [Value.ownBlock] at hk; omega)
       clear O1 F1 k1 ho hgr)
    | (refine wpList_load_byte rfl (.tmp 22) rfl 31 q o2 HL.out.symm (by rw [HL.out]; decide) rfl (HQ.out _) ?_)
    | (refine wpList_store_byte rfl (.tmp 25) (.tmp 24) rfl 31 u o2 HL.out.symm hcap (by rw [HL.out]; decide) rfl rfl HUL.out ?_
       intro w3 o3 g3
       have C3 := C2.grown g3 C2.size (by intro k hk; cases hk; exact hg)
       have Bw2 := Bw1.trans (C3.mono (HGS.out _ Bw1))
       replace r_t2 := World.rowIs.of_block r_t2 (C3.block _ (World.rowIs.lt r_t2))
       rw [← HCB.out] at o3
       have f_c := o3.bs
       clear o2 C2 C3 Bw1 g3 o3)
    | (have hgo := Bw2; clear hgo
       go_at_call 43
       refine (refStrict_cut _ l0 CL Y _ f_c HCL.out HL.out HYv.out HY.out).mono ?_
       rintro e w12 ⟨rfl, kk⟩
       replace r_t2 := World.rowIs.of_block r_t2 (kk.block _ (World.rowIs.lt r_t2))
       have Bw3 := Bw2.trans (kk.mono (HGS.out _ Bw2))
       clear Bw2 kk)
    | (have hgo := Bw3; clear hgo
       refine wpList_alloc_row rfl 34 rfl 16 (u64f fun _ => 0) zeroFe ?_
       intro b_t5 w16 lk r_t5 kk
       have n_t2_t5 : b_t2 ≠ b_t5 := Nat.ne_of_lt (Nat.lt_of_lt_of_le (World.rowIs.lt r_t2) lk)
       have l_t5 := Nat.le_trans (HGS.out _ Bw3) lk
       replace r_t2 := World.rowIs.of_block r_t2 (kk.block _ (World.rowIs.lt r_t2))
       have Bw4 := Bw3.trans (kk.mono (HGS.out _ Bw3))
       clear Bw3 kk lk)
    | (have hgo := Bw4; clear hgo
       refine wpList_store_as rfl 34 (.tmp 5) (.tmp 29) rfl 16 (feF Y) arrFe r_t5 rfl rfl (by omega) (fun _ _ => rfl) (fun i hi => putN_whole hi) ?_
       intro w17 q gk
       replace r_t2 := gb_rowIs r_t2 gk n_t2_t5
       replace r_t5 := q
       have Bw5 := Bw4.grown gk (HGS.out _ Bw4) (by intro k hk; cases hk; exact l_t5)
       clear Bw4 gk q)
    | (have hgo := Bw5; clear hgo
       refine wpList_load_as rfl 34 (.tmp 5) rfl 16 (feF Y) arrFe r_t5 rfl (by omega) (fun i hi => by rw [Nat.zero_add]) ?_
       have Bw6 := Bw5
       clear Bw5)
    | (have hgo := Bw6; clear hgo
       refine wpList_load_as rfl 34 (.tmp 5) rfl 16 (feF Y) arrFe r_t5 rfl (by omega) (fun i hi => by rw [Nat.zero_add]) ?_
       have Bw7 := Bw6
       clear Bw6)
    | (have hgo := Bw7; clear hgo
       go_at_call 44
       refine (refMul5_any Y Y _ HY.out HY.out).mono ?_
       rintro e w21 ⟨rfl, kk⟩
       replace r_t2 := World.rowIs.of_block r_t2 (kk.block _ (World.rowIs.lt r_t2))
       replace r_t5 := World.rowIs.of_block r_t5 (kk.block _ (World.rowIs.lt r_t5))
       have Bw8 := Bw7.trans (kk.mono (HGS.out _ Bw7))
       clear Bw7 kk)
    | (have hgo := Bw8; clear hgo
       refine wpList_alloc_row rfl 34 rfl 16 (u64f fun _ => 0) zeroFe ?_
       intro b_t7 w22 lk r_t7 kk
       have n_t2_t7 : b_t2 ≠ b_t7 := Nat.ne_of_lt (Nat.lt_of_lt_of_le (World.rowIs.lt r_t2) lk)
       have n_t5_t7 : b_t5 ≠ b_t7 := Nat.ne_of_lt (Nat.lt_of_lt_of_le (World.rowIs.lt r_t5) lk)
       have l_t7 := Nat.le_trans (HGS.out _ Bw8) lk
       replace r_t2 := World.rowIs.of_block r_t2 (kk.block _ (World.rowIs.lt r_t2))
       replace r_t5 := World.rowIs.of_block r_t5 (kk.block _ (World.rowIs.lt r_t5))
       have Bw9 := Bw8.trans (kk.mono (HGS.out _ Bw8))
       clear Bw8 kk lk)
    | (have hgo := Bw9; clear hgo
       refine wpList_store_as rfl 34 (.tmp 7) (.tmp 36) rfl 16 (feF (mulP Y Y)) arrFe r_t7 rfl rfl (by omega) (fun _ _ => rfl) (fun i hi => putN_whole hi) ?_
       intro w23 q gk
       replace r_t2 := gb_rowIs r_t2 gk n_t2_t7
       replace r_t5 := gb_rowIs r_t5 gk n_t5_t7
       replace r_t7 := q
       have Bw10 := Bw9.grown gk (HGS.out _ Bw9) (by intro k hk; cases hk; exact l_t7)
       clear Bw9 gk q))
  have Bw11 := Bw10.drew
  replace r_t2 := World.rowIs.drew r_t2
  replace r_t5 := World.rowIs.drew r_t5
  replace r_t7 := World.rowIs.drew r_t7
  clear Bw10
  refine wp_region_po (Keep []) (Keep.refl _) (fun _ _ _ h1 h2 => h1.trans h2) (.rd 0 .done) #[true, false, false, false, false] [1, 2, 3, 4] [some 38, some 39, some 8, none] [[], [0], [], [0, 1, 2]] [(0, []), (1, []), (2, [0, 1, 1]), (3, []), (4, [3, 2, 2, 0, 1, 2, 3])] 1 (by as_aux_lemma => kernel_rfl) (by as_aux_lemma => kernel_rfl) (by decide) (by as_aux_lemma => kernel_rfl) (by as_aux_lemma => kernel_rfl) (by as_aux_lemma => kernel_rfl) rfl (fun d _ _ _ _ h => by cases d <;> exact h) ?_
  refine lintz_pure 37 (Op.load 34 (Operand.tmp 7)) 34 (.agg (arrOf 16 (feF (mulP Y Y)))) rfl rfl rfl rfl rfl (fun w0 hb => by exact exec_load_as _ _ _ _ (feF (mulP Y Y)) rfl arrFe (Keep.row hb r_t7 rfl) (by omega) (fun i hi => by rw [Nat.zero_add])) ?_
  simp only [Act.put, List.setIfInBounds_toArray, List.set_cons_zero, List.set_cons_succ]
  refine lintz_leaf ?_
  have HWF : poWf [.val (.agg (arrOf 16 (feF 1))), .val (.agg (arrOf 16 (feF (subP p25 (mulP Y Y) 1)))), .row 34 16 (u64f fun _ => 0) 3 (feF (subP p25 (mulP Y Y) 1)), .nil] [] = true := by as_aux_lemma => kernel_rfl
  refine ⟨JG [.val (.agg (arrOf 16 (feF 1))), .val (.agg (arrOf 16 (feF (subP p25 (mulP Y Y) 1)))), .row 34 16 (u64f fun _ => 0) 3 (feF (subP p25 (mulP Y Y) 1)), .nil] [] _, JG.start (Nat.le_refl _) (fun i hi => absurd hi (Nat.not_lt_zero _)), fun m gz wa p az hp hm hmp hcl hdn hE hJ hS hO => ?_, fun gz wa hE hJ => ?_⟩
  · rcases (show p = 0 ∨ p = 1 ∨ p = 2 ∨ p = 3 by have h9 : p < 4 := hp; omega) with rfl | rfl | rfl | rfl
    · exact po_call 38 46 #[Operand.const (Value.int IntKind.u64 1)] #[24] _ HWF hJ rfl hE (refSmall_any 1 _ (by decide)) rfl rfl rfl rfl rfl Try.func46 (by kernel_rfl) (by kernel_rfl) (by simp only [List.map_toArray, List.map_cons, List.map_nil, eval_const, eval_func] <;> rfl)
    · have e37 : az.eval (.tmp 37) = .agg (arrOf 16 (feF (mulP Y Y))) := hO 37 rfl
      have e38 := (hS 0 38 rfl (hdn 0 (by decide)) (Nat.le_of_ble_eq_true rfl)).trans (hJ.says (hdn 0 (by decide)) rfl)
      exact po_call 39 45 #[Operand.tmp 37, Operand.tmp 38] #[34, 34] _ HWF hJ rfl hE (refSub_any (mulP Y Y) 1 _ (mulP_lt _ _) (by decide +kernel)) rfl rfl rfl rfl rfl Try.func45 (by kernel_rfl) (by kernel_rfl) (by simp only [List.map_toArray, List.map_cons, List.map_nil, eval_const, eval_func, e37, e38] <;> rfl)
    · exact po_alloc 8 _ 34 16 (u64f fun _ => 0) _ _ HWF hJ rfl (po_notyet hcl hmp (by rw [hm]; exact hp) (by decide)) hE rfl rfl rfl rfl rfl rfl zeroFe
    · have e39 := (hS 1 39 rfl (hdn 1 (by decide)) (Nat.le_of_ble_eq_true rfl)).trans (hJ.says (hdn 1 (by decide)) rfl)
      exact po_storeRow 2 (.tmp 8) (.tmp 39) 34 16 _ _ (by rw [hm]; exact hp) hmp hJ rfl rfl (hdn 2 (by decide)) (by kernel_rfl) (fun i hi => absurd hi (Nat.not_lt_zero _)) hE rfl rfl rfl rfl rfl (hS 2 8 rfl (hdn 2 (by decide)) (Nat.le_of_ble_eq_true rfl)) e39 arrFe (fun _ _ => rfl)
  · have q0 := hJ.told 0 (by decide) rfl
    have q1 := hJ.told 1 (by decide) rfl
    obtain ⟨b_t8, p_t8, lk_t8, r_t8, d_t8⟩ := hJ.row 2 (by decide) rfl (by decide)
    rw [putO_true _ _ _ _ _ rfl]
    simp only [putA, Nat.zero_add, Nat.reduceAdd]
    rw [q0, q1, p_t8]
    simp only [Act.put, List.setIfInBounds_toArray, List.set_cons_zero, List.set_cons_succ]
    refine po_end ?_
    have n_t2_t8 : b_t2 ≠ b_t8 := Nat.ne_of_lt (Nat.lt_of_lt_of_le (World.rowIs.lt r_t2) lk_t8)
    have n_t5_t8 : b_t5 ≠ b_t8 := Nat.ne_of_lt (Nat.lt_of_lt_of_le (World.rowIs.lt r_t5) lk_t8)
    have n_t7_t8 : b_t7 ≠ b_t8 := Nat.ne_of_lt (Nat.lt_of_lt_of_le (World.rowIs.lt r_t7) lk_t8)
    have l_t8 := Nat.le_trans (HGS.out _ Bw11) lk_t8
    replace r_t2 := Keep.row hE r_t2 rfl
    replace r_t5 := Keep.row hE r_t5 rfl
    replace r_t7 := Keep.row hE r_t7 rfl
    have Bw12 := hE.below Bw11 (HGS.out _ Bw11) rfl
    clear Bw11 hE hJ HWF q0 q1 p_t8 lk_t8 d_t8
    go_wp2
    have Bw13 := Bw12.drew
    replace r_t2 := World.rowIs.drew r_t2
    replace r_t5 := World.rowIs.drew r_t5
    replace r_t7 := World.rowIs.drew r_t7
    replace r_t8 := World.rowIs.drew r_t8
    clear Bw12
    refine wp_region_po (Keep []) (Keep.refl _) (fun _ _ _ h1 h2 => h1.trans h2) (.rd 1 .done) #[false, true, false, false, false, false, false] [0, 2, 3, 4, 5, 6] [some 40, some 42, some 43, some 44, some 9, none] [[], [0], [1], [1, 2], [], [0, 1, 2, 3, 4]] [(0, []), (1, []), (2, [0, 1, 0]), (3, [2]), (4, [2, 3, 3]), (5, []), (6, [5, 4, 4, 0, 1, 2, 3, 4, 5])] 2 (by as_aux_lemma => kernel_rfl) (by as_aux_lemma => kernel_rfl) (by decide) (by as_aux_lemma => kernel_rfl) (by as_aux_lemma => kernel_rfl) (by as_aux_lemma => kernel_rfl) rfl (fun d _ _ _ _ h => by cases d <;> exact h) ?_
    refine lintz_pure 41 (Op.load 34 (Operand.tmp 7)) 34 (.agg (arrOf 16 (feF (mulP Y Y)))) rfl rfl rfl rfl rfl (fun w0 hb => by exact exec_load_as _ _ _ _ (feF (mulP Y Y)) rfl arrFe (Keep.row hb r_t7 rfl) (by omega) (fun i hi => by rw [Nat.zero_add])) ?_
    simp only [Act.put, List.setIfInBounds_toArray, List.set_cons_zero, List.set_cons_succ]
    refine lintz_leaf ?_
    have HWF : poWf [.val (.agg (arrOf 16 (feF dP))), .val (.agg (arrOf 16 (feF (mulP dP (mulP Y Y))))), .val (.agg (arrOf 16 (feF 1))), .val (.agg (arrOf 16 (feF (addP (mulP dP (mulP Y Y)) 1)))), .row 34 16 (u64f fun _ => 0) 5 (feF (addP (mulP dP (mulP Y Y)) 1)), .nil] [] = true := by as_aux_lemma => kernel_rfl
    refine ⟨JG [.val (.agg (arrOf 16 (feF dP))), .val (.agg (arrOf 16 (feF (mulP dP (mulP Y Y))))), .val (.agg (arrOf 16 (feF 1))), .val (.agg (arrOf 16 (feF (addP (mulP dP (mulP Y Y)) 1)))), .row 34 16 (u64f fun _ => 0) 5 (feF (addP (mulP dP (mulP Y Y)) 1)), .nil] [] _, JG.start (Nat.le_refl _) (fun i hi => absurd hi (Nat.not_lt_zero _)), fun m gz wa p az hp hm hmp hcl hdn hE hJ hS hO => ?_, fun gz wa hE hJ => ?_⟩
    · rcases (show p = 0 ∨ p = 1 ∨ p = 2 ∨ p = 3 ∨ p = 4 ∨ p = 5 by have h9 : p < 6 := hp; omega) with rfl | rfl | rfl | rfl | rfl | rfl
      · exact po_call 40 47 #[] #[] _ HWF hJ rfl hE (curve_any _) rfl rfl rfl rfl rfl Try.func47 (by kernel_rfl) (by kernel_rfl) (by simp only [List.map_toArray, List.map_cons, List.map_nil, eval_const, eval_func] <;> rfl)
      · have e40 := (hS 0 40 rfl (hdn 0 (by decide)) (Nat.le_of_ble_eq_true rfl)).trans (hJ.says (hdn 0 (by decide)) rfl)
        have e41 : az.eval (.tmp 41) = .agg (arrOf 16 (feF (mulP Y Y))) := hO 41 rfl
        exact po_call 42 44 #[Operand.tmp 40, Operand.tmp 41] #[34, 34] _ HWF hJ rfl hE (refMul5_any dP (mulP Y Y) _ dP_lt (mulP_lt _ _)) rfl rfl rfl rfl rfl Try.func44 (by kernel_rfl) (by kernel_rfl) (by simp only [List.map_toArray, List.map_cons, List.map_nil, eval_const, eval_func, e40, e41] <;> rfl)
      · exact po_call 43 46 #[Operand.const (Value.int IntKind.u64 1)] #[24] _ HWF hJ rfl hE (refSmall_any 1 _ (by decide)) rfl rfl rfl rfl rfl Try.func46 (by kernel_rfl) (by kernel_rfl) (by simp only [List.map_toArray, List.map_cons, List.map_nil, eval_const, eval_func] <;> rfl)
      · have e42 := (hS 1 42 rfl (hdn 1 (by decide)) (Nat.le_of_ble_eq_true rfl)).trans (hJ.says (hdn 1 (by decide)) rfl)
        have e43 := (hS 2 43 rfl (hdn 2 (by decide)) (Nat.le_of_ble_eq_true rfl)).trans (hJ.says (hdn 2 (by decide)) rfl)
        exact po_call 44 48 #[Operand.tmp 42, Operand.tmp 43] #[34, 34] _ HWF hJ rfl hE (refAdd5_any (mulP dP (mulP Y Y)) 1 _ (mulP_lt _ _) (by decide +kernel)) rfl rfl rfl rfl rfl Try.func48 (by kernel_rfl) (by kernel_rfl) (by simp only [List.map_toArray, List.map_cons, List.map_nil, eval_const, eval_func, e42, e43] <;> rfl)
      · exact po_alloc 9 _ 34 16 (u64f fun _ => 0) _ _ HWF hJ rfl (po_notyet hcl hmp (by rw [hm]; exact hp) (by decide)) hE rfl rfl rfl rfl rfl rfl zeroFe
      · have e44 := (hS 3 44 rfl (hdn 3 (by decide)) (Nat.le_of_ble_eq_true rfl)).trans (hJ.says (hdn 3 (by decide)) rfl)
        exact po_storeRow 4 (.tmp 9) (.tmp 44) 34 16 _ _ (by rw [hm]; exact hp) hmp hJ rfl rfl (hdn 4 (by decide)) (by kernel_rfl) (fun i hi => absurd hi (Nat.not_lt_zero _)) hE rfl rfl rfl rfl rfl (hS 4 9 rfl (hdn 4 (by decide)) (Nat.le_of_ble_eq_true rfl)) e44 arrFe (fun _ _ => rfl)
    · have q0 := hJ.told 0 (by decide) rfl
      have q1 := hJ.told 1 (by decide) rfl
      have q2 := hJ.told 2 (by decide) rfl
      have q3 := hJ.told 3 (by decide) rfl
      obtain ⟨b_t9, p_t9, lk_t9, r_t9, d_t9⟩ := hJ.row 4 (by decide) rfl (by decide)
      rw [putO_true _ _ _ _ _ rfl]
      simp only [putA, Nat.zero_add, Nat.reduceAdd]
      rw [q0, q1, q2, q3, p_t9]
      simp only [Act.put, List.setIfInBounds_toArray, List.set_cons_zero, List.set_cons_succ]
      refine po_end ?_
      have n_t2_t9 : b_t2 ≠ b_t9 := Nat.ne_of_lt (Nat.lt_of_lt_of_le (World.rowIs.lt r_t2) lk_t9)
      have n_t5_t9 : b_t5 ≠ b_t9 := Nat.ne_of_lt (Nat.lt_of_lt_of_le (World.rowIs.lt r_t5) lk_t9)
      have n_t7_t9 : b_t7 ≠ b_t9 := Nat.ne_of_lt (Nat.lt_of_lt_of_le (World.rowIs.lt r_t7) lk_t9)
      have n_t8_t9 : b_t8 ≠ b_t9 := Nat.ne_of_lt (Nat.lt_of_lt_of_le (World.rowIs.lt r_t8) lk_t9)
      have l_t9 := Nat.le_trans (HGS.out _ Bw13) lk_t9
      replace r_t2 := Keep.row hE r_t2 rfl
      replace r_t5 := Keep.row hE r_t5 rfl
      replace r_t7 := Keep.row hE r_t7 rfl
      replace r_t8 := Keep.row hE r_t8 rfl
      have Bw14 := hE.below Bw13 (HGS.out _ Bw13) rfl
      clear Bw13 hE hJ HWF q0 q1 q2 q3 p_t9 lk_t9 d_t9
      go_wp2
      have Bw15 := Bw14.drew
      replace r_t2 := World.rowIs.drew r_t2
      replace r_t5 := World.rowIs.drew r_t5
      replace r_t7 := World.rowIs.drew r_t7
      replace r_t8 := World.rowIs.drew r_t8
      replace r_t9 := World.rowIs.drew r_t9
      clear Bw14
      refine wp_region_po (Keep []) (Keep.refl _) (fun _ _ _ h1 h2 => h1.trans h2) (.rd 0 (.rd 1 .done)) #[true, true, false, false, false, false, false, false, false, false, false] [2, 3, 4, 5, 6, 7, 8, 9, 10] [some 48, some 49, some 50, some 45, some 51, some 52, some 10, none, some 11] [[], [0], [1], [2], [3], [3], [], [0, 1, 2, 3, 4, 6], [0, 1, 2, 3, 4, 5, 6, 7]] [(0, []), (1, []), (2, [1]), (3, [0, 2, 2]), (4, [3, 3]), (5, [4]), (6, [5]), (7, [5]), (8, []), (9, [8, 6, 4, 0, 1, 2, 3, 4, 5, 6, 8]), (10, [7, 9, 0, 1, 2, 3, 4, 5, 6, 7, 8, 9])] 3 (by as_aux_lemma => kernel_rfl) (by as_aux_lemma => kernel_rfl) (by decide) (by as_aux_lemma => kernel_rfl) (by as_aux_lemma => kernel_rfl) (by as_aux_lemma => kernel_rfl) rfl (fun d _ _ _ _ h => by cases d <;> exact h) ?_
      refine lintz_pure 46 (Op.load 34 (Operand.tmp 8)) 34 (.agg (arrOf 16 (feF (subP p25 (mulP Y Y) 1)))) rfl rfl rfl rfl rfl (fun w0 hb => by exact exec_load_as _ _ _ _ (feF (subP p25 (mulP Y Y) 1)) rfl arrFe (Keep.row hb r_t8 rfl) (by omega) (fun i hi => by rw [Nat.zero_add])) ?_
      simp only [Act.put, List.setIfInBounds_toArray, List.set_cons_zero, List.set_cons_succ]
      refine lintz_pure 47 (Op.load 34 (Operand.tmp 9)) 34 (.agg (arrOf 16 (feF (addP (mulP dP (mulP Y Y)) 1)))) rfl rfl rfl rfl rfl (fun w0 hb => by exact exec_load_as _ _ _ _ (feF (addP (mulP dP (mulP Y Y)) 1)) rfl arrFe (Keep.row hb r_t9 rfl) (by omega) (fun i hi => by rw [Nat.zero_add])) ?_
      simp only [Act.put, List.setIfInBounds_toArray, List.set_cons_zero, List.set_cons_succ]
      refine lintz_leaf ?_
      have HWF : poWf [.val (.agg (arrOf 16 (feF (invP (addP (mulP dP (mulP Y Y)) 1))))), .val (.agg (arrOf 16 (feF (mulP (subP p25 (mulP Y Y) 1) (invP (addP (mulP dP (mulP Y Y)) 1)))))), .val (.tuple #[.agg (arrOf 16 (feF x)), .int .i64 0]), .val (.tuple #[.agg (arrOf 16 (feF x)), .int .i64 0]), .val (.agg (arrOf 16 (feF x))), .val (.int .i64 0), .row 34 16 (u64f fun _ => 0) 7 (feF x), .nil, .val (.int .i64 0)] [] = true := by as_aux_lemma => kernel_rfl
      refine ⟨JG [.val (.agg (arrOf 16 (feF (invP (addP (mulP dP (mulP Y Y)) 1))))), .val (.agg (arrOf 16 (feF (mulP (subP p25 (mulP Y Y) 1) (invP (addP (mulP dP (mulP Y Y)) 1)))))), .val (.tuple #[.agg (arrOf 16 (feF x)), .int .i64 0]), .val (.tuple #[.agg (arrOf 16 (feF x)), .int .i64 0]), .val (.agg (arrOf 16 (feF x))), .val (.int .i64 0), .row 34 16 (u64f fun _ => 0) 7 (feF x), .nil, .val (.int .i64 0)] [] _, JG.start (Nat.le_refl _) (fun i hi => absurd hi (Nat.not_lt_zero _)), fun m gz wa p az hp hm hmp hcl hdn hE hJ hS hO => ?_, fun gz wa hE hJ => ?_⟩
      · rcases (show p = 0 ∨ p = 1 ∨ p = 2 ∨ p = 3 ∨ p = 4 ∨ p = 5 ∨ p = 6 ∨ p = 7 ∨ p = 8 by have h9 : p < 9 := hp; omega) with rfl | rfl | rfl | rfl | rfl | rfl | rfl | rfl | rfl
        · have e47 : az.eval (.tmp 47) = .agg (arrOf 16 (feF (addP (mulP dP (mulP Y Y)) 1))) := hO 47 rfl
          exact po_call 48 49 #[Operand.tmp 47] #[34] _ HWF hJ rfl hE (refInv5_any (addP (mulP dP (mulP Y Y)) 1) _ (addP_lt _ _)) rfl rfl rfl rfl rfl Try.func49 (by kernel_rfl) (by kernel_rfl) (by simp only [List.map_toArray, List.map_cons, List.map_nil, eval_const, eval_func, e47] <;> rfl)
        · have e46 : az.eval (.tmp 46) = .agg (arrOf 16 (feF (subP p25 (mulP Y Y) 1))) := hO 46 rfl
          have e48 := (hS 0 48 rfl (hdn 0 (by decide)) (Nat.le_of_ble_eq_true rfl)).trans (hJ.says (hdn 0 (by decide)) rfl)
          exact po_call 49 44 #[Operand.tmp 46, Operand.tmp 48] #[34, 34] _ HWF hJ rfl hE (refMul5_any (subP p25 (mulP Y Y) 1) (invP (addP (mulP dP (mulP Y Y)) 1)) _ (subP_lt _ _) (invP_lt _)) rfl rfl rfl rfl rfl Try.func44 (by kernel_rfl) (by kernel_rfl) (by simp only [List.map_toArray, List.map_cons, List.map_nil, eval_const, eval_func, e46, e48] <;> rfl)
        · have e49 := (hS 1 49 rfl (hdn 1 (by decide)) (Nat.le_of_ble_eq_true rfl)).trans (hJ.says (hdn 1 (by decide)) rfl)
          exact po_call 50 50 #[Operand.tmp 49] #[34] _ HWF hJ rfl hE (HRT.out _) rfl rfl rfl rfl rfl Try.func50 (by kernel_rfl) (by kernel_rfl) (by simp only [List.map_toArray, List.map_cons, List.map_nil, eval_const, eval_func, e49] <;> rfl)
        · have e50 := (hS 2 50 rfl (hdn 2 (by decide)) (Nat.le_of_ble_eq_true rfl)).trans (hJ.says (hdn 2 (by decide)) rfl)
          exact po_run 45 (Op.move (Operand.tmp 50)) _ HWF hJ rfl hE rfl rfl rfl rfl rfl rfl (by first | (simp only [execOp, mkOp, eval_const, e50]; done) | (simp only [execOp, mkOp, eval_const, e50]; go_simp))
        · have e45 := (hS 3 45 rfl (hdn 3 (by decide)) (Nat.le_of_ble_eq_true rfl)).trans (hJ.says (hdn 3 (by decide)) rfl)
          exact po_run 51 (Op.extract (Operand.tmp 45) 0) _ HWF hJ rfl hE rfl rfl rfl rfl rfl rfl (by first | (simp only [execOp, mkOp, eval_const, e45]; done) | (simp only [execOp, mkOp, eval_const, e45]; go_simp))
        · have e45 := (hS 3 45 rfl (hdn 3 (by decide)) (Nat.le_of_ble_eq_true rfl)).trans (hJ.says (hdn 3 (by decide)) rfl)
          exact po_run 52 (Op.extract (Operand.tmp 45) 1) _ HWF hJ rfl hE rfl rfl rfl rfl rfl rfl (by first | (simp only [execOp, mkOp, eval_const, e45]; done) | (simp only [execOp, mkOp, eval_const, e45]; go_simp))
        · exact po_alloc 10 _ 34 16 (u64f fun _ => 0) _ _ HWF hJ rfl (po_notyet hcl hmp (by rw [hm]; exact hp) (by decide)) hE rfl rfl rfl rfl rfl rfl zeroFe
        · have e51 := (hS 4 51 rfl (hdn 4 (by decide)) (Nat.le_of_ble_eq_true rfl)).trans (hJ.says (hdn 4 (by decide)) rfl)
          exact po_storeRow 6 (.tmp 10) (.tmp 51) 34 16 _ _ (by rw [hm]; exact hp) hmp hJ rfl rfl (hdn 6 (by decide)) (by kernel_rfl) (fun i hi => absurd hi (Nat.not_lt_zero _)) hE rfl rfl rfl rfl rfl (hS 6 10 rfl (hdn 6 (by decide)) (Nat.le_of_ble_eq_true rfl)) e51 arrFe (fun _ _ => rfl)
        · have e52 := (hS 5 52 rfl (hdn 5 (by decide)) (Nat.le_of_ble_eq_true rfl)).trans (hJ.says (hdn 5 (by decide)) rfl)
          exact po_run 11 (Op.assign (Operand.tmp 52)) _ HWF hJ rfl hE rfl rfl rfl rfl rfl rfl (by first | (simp only [execOp, mkOp, eval_const, e52]; done) | (simp only [execOp, mkOp, eval_const, e52]; go_simp))
      · have q0 := hJ.told 0 (by decide) rfl
        have q1 := hJ.told 1 (by decide) rfl
        have q2 := hJ.told 2 (by decide) rfl
        have q3 := hJ.told 3 (by decide) rfl
        have q4 := hJ.told 4 (by decide) rfl
        have q5 := hJ.told 5 (by decide) rfl
        obtain ⟨b_t10, p_t10, lk_t10, r_t10, d_t10⟩ := hJ.row 6 (by decide) rfl (by decide)
        have q8 := hJ.told 8 (by decide) rfl
        rw [putO_true _ _ _ _ _ rfl]
        simp only [putA, Nat.zero_add, Nat.reduceAdd]
        rw [q0, q1, q2, q3, q4, q5, p_t10, q8]
        simp only [Act.put, List.setIfInBounds_toArray, List.set_cons_zero, List.set_cons_succ]
        refine po_end ?_
        have n_t2_t10 : b_t2 ≠ b_t10 := Nat.ne_of_lt (Nat.lt_of_lt_of_le (World.rowIs.lt r_t2) lk_t10)
        have n_t5_t10 : b_t5 ≠ b_t10 := Nat.ne_of_lt (Nat.lt_of_lt_of_le (World.rowIs.lt r_t5) lk_t10)
        have n_t7_t10 : b_t7 ≠ b_t10 := Nat.ne_of_lt (Nat.lt_of_lt_of_le (World.rowIs.lt r_t7) lk_t10)
        have n_t8_t10 : b_t8 ≠ b_t10 := Nat.ne_of_lt (Nat.lt_of_lt_of_le (World.rowIs.lt r_t8) lk_t10)
        have n_t9_t10 : b_t9 ≠ b_t10 := Nat.ne_of_lt (Nat.lt_of_lt_of_le (World.rowIs.lt r_t9) lk_t10)
        have l_t10 := Nat.le_trans (HGS.out _ Bw15) lk_t10
        replace r_t2 := Keep.row hE r_t2 rfl
        replace r_t5 := Keep.row hE r_t5 rfl
        replace r_t7 := Keep.row hE r_t7 rfl
        replace r_t8 := Keep.row hE r_t8 rfl
        replace r_t9 := Keep.row hE r_t9 rfl
        have Bw16 := hE.below Bw15 (HGS.out _ Bw15) rfl
        clear Bw15 hE hJ HWF q0 q1 q2 q3 q4 q5 q8 p_t10 lk_t10 d_t10
        go_wp2_with (first
          | (have hgo := Bw16; clear hgo
             refine wpList_load_cat rfl (.tmp 54) rfl (HC31.out _ Bw16) rfl ?_
             have Bw17 := Bw16
             clear Bw16)
          | (have hgo := Bw17; clear hgo
             refine wpList_shr7 rfl (.tmp 55) (.const (.int .u64 7)) rfl rfl rfl HSH.out HQL.out ?_
             have Bw18 := Bw17
             clear Bw17)
          | (have hgo := Bw18; clear hgo
             refine wpList_load_given rfl 34 (.tmp 10) rfl 16 arrFe r_t10 rfl (by omega) ?_
             simp only [Nat.zero_add]
             have Bw19 := Bw18
             clear Bw18)
          | (have hgo := Bw19; clear hgo
             refine wpList_value_given rfl (.agg (arrOf 16 (feF 0))) (by rw [exec_mkOp]; exact exec_zeroFe _ _) ?_
             have Bw20 := Bw19
             clear Bw19)
          | (have hgo := Bw20; clear hgo
             refine wpList_value_given rfl (.bool false) (by rw [exec_mkOp]; exact exec_Fe_eq2 _ _ _ _ Hx.out p25_pos (decide_eq_false HX0.out) rfl rfl) ?_
             have Bw21 := Bw20
             clear Bw20)
          | (have hgo := Bw21; clear hgo
             refine wpList_load_as rfl 34 (.tmp 10) rfl 16 (feF x) arrFe r_t10 rfl (by omega) (fun i hi => by rw [Nat.zero_add]) ?_
             have Bw22 := Bw21
             clear Bw21)
          | (have hgo := Bw22; clear hgo
             go_at_call 51
             refine (refNeg5_any x _ Hx.out).mono ?_
             rintro e w41 ⟨rfl, kk⟩
             replace r_t2 := World.rowIs.of_block r_t2 (kk.block _ (World.rowIs.lt r_t2))
             replace r_t5 := World.rowIs.of_block r_t5 (kk.block _ (World.rowIs.lt r_t5))
             replace r_t7 := World.rowIs.of_block r_t7 (kk.block _ (World.rowIs.lt r_t7))
             replace r_t8 := World.rowIs.of_block r_t8 (kk.block _ (World.rowIs.lt r_t8))
             replace r_t9 := World.rowIs.of_block r_t9 (kk.block _ (World.rowIs.lt r_t9))
             replace r_t10 := World.rowIs.of_block r_t10 (kk.block _ (World.rowIs.lt r_t10))
             have Bw23 := Bw22.trans (kk.mono (HGS.out _ Bw22))
             clear Bw22 kk)
          | (have hgo := Bw23; clear hgo
             refine wpList_store_as rfl 34 (.tmp 10) (.tmp 71) rfl 16 (feF (oppP x)) arrFe r_t10 rfl rfl (by omega) (fun _ _ => rfl) (fun i hi => putN_whole hi) ?_
             intro w42 q gk
             replace r_t2 := gb_rowIs r_t2 gk n_t2_t10
             replace r_t5 := gb_rowIs r_t5 gk n_t5_t10
             replace r_t7 := gb_rowIs r_t7 gk n_t7_t10
             replace r_t8 := gb_rowIs r_t8 gk n_t8_t10
             replace r_t9 := gb_rowIs r_t9 gk n_t9_t10
             replace r_t10 := q
             have Bw24 := Bw23.grown gk (HGS.out _ Bw23) (by intro k hk; cases hk; exact l_t10)
             clear Bw23 gk q))
        have Bw25 := Bw24.drew
        replace r_t2 := World.rowIs.drew r_t2
        replace r_t5 := World.rowIs.drew r_t5
        replace r_t7 := World.rowIs.drew r_t7
        replace r_t8 := World.rowIs.drew r_t8
        replace r_t9 := World.rowIs.drew r_t9
        replace r_t10 := World.rowIs.drew r_t10
        clear Bw24
        refine wp_region_po (Keep [b_t2]) (Keep.refl _) (fun _ _ _ h1 h2 => h1.trans h2) (.rd 0 (.rd 1 .done)) #[true, true, false, false, false, false] [2, 3, 4, 5] [some 74, some 75, none, some 3] [[], [0], [0, 1], [0, 1, 2]] [(0, []), (1, []), (2, []), (3, [0, 1, 2]), (4, [3, 2, 0, 1, 2, 3]), (5, [4, 0, 1, 2, 3, 4])] 3 (by as_aux_lemma => kernel_rfl) (by as_aux_lemma => kernel_rfl) (by decide) (by as_aux_lemma => kernel_rfl) (by as_aux_lemma => kernel_rfl) (by as_aux_lemma => kernel_rfl) rfl (fun d _ _ _ _ h => by cases d <;> exact h) ?_
        refine lintz_pure 72 (Op.load 34 (Operand.tmp 10)) 34 (.agg (arrOf 16 (feF (oppP x)))) rfl rfl rfl rfl rfl (fun w0 hb => by exact exec_load_as _ _ _ _ (feF (oppP x)) rfl arrFe (Keep.row hb r_t10 (cont1 (Ne.symm n_t2_t10))) (by omega) (fun i hi => by rw [Nat.zero_add])) ?_
        simp only [Act.put, List.setIfInBounds_toArray, List.set_cons_zero, List.set_cons_succ]
        refine lintz_pure 73 (Op.load 34 (Operand.tmp 5)) 34 (.agg (arrOf 16 (feF Y))) rfl rfl rfl rfl rfl (fun w0 hb => by exact exec_load_as _ _ _ _ (feF Y) rfl arrFe (Keep.row hb r_t5 (cont1 (Ne.symm n_t2_t5))) (by omega) (fun i hi => by rw [Nat.zero_add])) ?_
        simp only [Act.put, List.setIfInBounds_toArray, List.set_cons_zero, List.set_cons_succ]
        refine lintz_leaf ?_
        have HWF : poWf [.val (.agg (arrOf 16 (feF 1))), .val (.agg (arrOf 48 (ptF (oppP x) Y 1))), .nil, .val ((.int .i64 0))] [⟨b_t2, 36, 48, (u64f fun _ => 0), 2, (ptF (oppP x) Y 1)⟩] = true := by as_aux_lemma => kernel_rfl
        refine ⟨JG [.val (.agg (arrOf 16 (feF 1))), .val (.agg (arrOf 48 (ptF (oppP x) Y 1))), .nil, .val ((.int .i64 0))] [⟨b_t2, 36, 48, (u64f fun _ => 0), 2, (ptF (oppP x) Y 1)⟩] _, JG.start (Nat.le_refl _) (fun i hi => by obtain rfl : i = 0 := by { have h9 : i < 1 := hi; omega }; exact r_t2), fun m gz wa p az hp hm hmp hcl hdn hE hJ hS hO => ?_, fun gz wa hE hJ => ?_⟩
        · rcases (show p = 0 ∨ p = 1 ∨ p = 2 ∨ p = 3 by have h9 : p < 4 := hp; omega) with rfl | rfl | rfl | rfl
          · exact po_call 74 46 #[Operand.const (Value.int IntKind.u64 1)] #[24] _ HWF hJ rfl hE (refSmall_any 1 _ (by decide)) rfl rfl rfl rfl rfl Try.func46 (by kernel_rfl) (by kernel_rfl) (by simp only [List.map_toArray, List.map_cons, List.map_nil, eval_const, eval_func] <;> rfl)
          · have e72 : az.eval (.tmp 72) = .agg (arrOf 16 (feF (oppP x))) := hO 72 rfl
            have e73 : az.eval (.tmp 73) = .agg (arrOf 16 (feF Y)) := hO 73 rfl
            have e74 := (hS 0 74 rfl (hdn 0 (by decide)) (Nat.le_of_ble_eq_true rfl)).trans (hJ.says (hdn 0 (by decide)) rfl)
            exact po_run 75 (Op.build 36 #[(0, Operand.tmp 72), (1, Operand.tmp 73), (2, Operand.tmp 74)]) _ HWF hJ rfl hE rfl rfl rfl rfl rfl rfl (exec_build_as _ _ _ (by simp only [List.map_toArray, List.map_cons, List.map_nil, e72, e73, e74]; exact builtP (oppP x) Y 1))
          · have e75 := (hS 1 75 rfl (hdn 1 (by decide)) (Nat.le_of_ble_eq_true rfl)).trans (hJ.says (hdn 1 (by decide)) rfl)
            exact po_storeOld 0 (.tmp 2) (.tmp 75) 36 b_t2 48 _ (by rw [hm]; exact hp) hmp hJ rfl (show 0 < 1 by decide) rfl rfl rfl rfl rfl (World.rowIs.lt r_t2) (by simp) (by kernel_rfl) po_ne1 hE rfl rfl rfl rfl rfl (hO 2 rfl) e75 arrP (fun j _ => ptF_one _ _ _ j)
          · exact po_run 3 (Op.assign (Operand.const (Value.int IntKind.i64 0))) _ HWF hJ rfl hE rfl rfl rfl rfl rfl rfl (by first | (simp only [execOp, mkOp, eval_const]; done) | (simp only [execOp, mkOp, eval_const]; go_simp))
        · have q0 := hJ.told 0 (by decide) rfl
          have q1 := hJ.told 1 (by decide) rfl
          have q3 := hJ.told 3 (by decide) rfl
          rw [putO_true _ _ _ _ _ rfl]
          simp only [putA, Nat.zero_add, Nat.reduceAdd]
          rw [q0, q1, q3]
          simp only [Act.put, List.setIfInBounds_toArray, List.set_cons_zero, List.set_cons_succ]
          refine po_end ?_
          replace r_t2 : wa.rowIs b_t2 36 48 (ptF (oppP x) Y 1) := hJ.old 0 (show 0 < 1 by decide) (show 2 < 4 by decide)
          replace r_t5 := Keep.row hE r_t5 (cont1 (Ne.symm n_t2_t5))
          replace r_t7 := Keep.row hE r_t7 (cont1 (Ne.symm n_t2_t7))
          replace r_t8 := Keep.row hE r_t8 (cont1 (Ne.symm n_t2_t8))
          replace r_t9 := Keep.row hE r_t9 (cont1 (Ne.symm n_t2_t9))
          replace r_t10 := Keep.row hE r_t10 (cont1 (Ne.symm n_t2_t10))
          have Bw26 := hE.below Bw25 (HGS.out _ Bw25) (keep_all1 l_t2)
          clear Bw25 hE hJ HWF q0 q1 q3
          go_wp2
          exact ret_cell_as_tmp _ rfl arrP r_t2 rfl rfl (by omega) (fun _ _ => rfl) rfl ⟨by rw [HYv.out]; rfl, Bw26⟩
end Go.Proofs.Ytphkmaihnbhgoaa

/- The document's numbers below L, bytes, the greatest first: order, above. -/
namespace Go.Proofs.Ytphkmaihnbhgoaa
open Go.RowKit Go.Deep
set_option linter.unusedSimpArgs false
set_option linter.unusedVariables false

end Go.Proofs.Ytphkmaihnbhgoaa

/- The document's bytes the other way round. -/
namespace Go.Proofs.Ytphkmaihnbhgoaa
open Go.RowKit Go.Deep
set_option linter.unusedSimpArgs false
set_option linter.unusedVariables false

end Go.Proofs.Ytphkmaihnbhgoaa

/- Numbers below L by digits: twice a number and a bit, the difference; the numbers of the document's mod. -/
set_option linter.unusedSimpArgs false
set_option linter.unusedVariables false
namespace Go.Proofs.Ytphkmaihnbhgoaa

theorem ordL_pos : 0 < ordL := by decide +kernel
end Go.Proofs.Ytphkmaihnbhgoaa

/- The document's mod L. -/
namespace Go.Proofs.Ytphkmaihnbhgoaa
open Go.RowKit Go.Deep
set_option linter.unusedSimpArgs false
set_option linter.unusedVariables false

theorem exec_sliceFromArr {P : Program} {w : World} (ρ : Operand → Value) (ty elem : TypeId) (x lo : Operand) (t : TypeId) {b off n : Nat} (j m off' : Nat) {k : IntKind} (hu : P.underlying ty = some (.array n elem)) (hi : (P.info? elem).map (fun i => i.size) = some 1)
    (hx : ρ x = .pointer (some ⟨b, off, none⟩)) (hlo : ρ lo = .int k (j : Int)) (hj : j < n) (hm : m = n - j) (ho : off' = off + j) :
    (execOp ρ (mkOp (.slice ty x (some lo) none none) t)).run P w = .ok (.value (.slice (some ⟨b, off', none⟩) m m)) w := by
  subst hm ho
  have hrun := run_sliceFrom_arr (P := P) w ty elem n b off j k hu hi hj
  simp [execOp, mkOp, hx, hlo, hrun, Result.andThen]
end Go.Proofs.Ytphkmaihnbhgoaa

/- The document's numbers below L: Bytes, Wide, Bit. -/
namespace Go.Proofs.Ytphkmaihnbhgoaa
open Go.RowKit Go.Deep
set_option linter.unusedSimpArgs false
set_option linter.unusedVariables false

end Go.Proofs.Ytphkmaihnbhgoaa

/- The document's numbers below L: Add. -/
namespace Go.Proofs.Ytphkmaihnbhgoaa
open Go.RowKit Go.Deep
set_option linter.unusedSimpArgs false
set_option linter.unusedVariables false

end Go.Proofs.Ytphkmaihnbhgoaa

/- The document's numbers below L: Mul. -/
namespace Go.Proofs.Ytphkmaihnbhgoaa
open Go.RowKit Go.Deep
set_option linter.unusedSimpArgs false
set_option linter.unusedVariables false

end Go.Proofs.Ytphkmaihnbhgoaa

/- The document's numbers below L: Neg, Bit. -/
namespace Go.Proofs.Ytphkmaihnbhgoaa
open Go.RowKit Go.Deep
set_option linter.unusedSimpArgs false
set_option linter.unusedVariables false

/-- Digit k of a number; none outside of 0 to 255. -/
def bitZ (V : Nat) (k : Int) : Nat := if 0 ≤ k ∧ k ≤ 255 then V / 2 ^ k.toNat % 2 else 0
end Go.Proofs.Ytphkmaihnbhgoaa

/- The document's points: so many times. -/
set_option linter.unusedSimpArgs false
set_option linter.unusedVariables false
namespace Go.Proofs.Ytphkmaihnbhgoaa
open Go.RowKit Go.Deep

theorem pmulS_lt (d : Nat) (a : Nat × Nat × Nat) (K : Nat) : ∀ i, (pmulS d a K i).1 < p25 ∧ (pmulS d a K i).2.1 < p25 ∧ (pmulS d a K i).2.2 < p25
  | 0 => ⟨p25_pos, Nat.lt_trans (Nat.lt_succ_self 1) p25_two, Nat.lt_trans (Nat.lt_succ_self 1) p25_two⟩
  | i + 1 => by
    unfold pmulS
    split
    · exact padd_lt _ _ _
    · exact padd_lt _ _ _
end Go.Proofs.Ytphkmaihnbhgoaa

/- The document's points: their form. -/
set_option linter.unusedSimpArgs false
set_option linter.unusedVariables false
namespace Go.Proofs.Ytphkmaihnbhgoaa
open Go.RowKit Go.Deep

/-- The form of the point told by x, y and z. -/
def encA (a : Nat × Nat × Nat) : Nat := mulP a.2.1 (invP a.2.2) + mulP a.1 (invP a.2.2) % 2 * top
theorem or_0 (q : Nat) (h : q < 128) : bits .or .u8 (q : Int) 0 = (q : Int) := by
  have g : ∀ x : Fin 128, bits .or .u8 ((x.val : Nat) : Int) 0 = ((x.val : Nat) : Int) := by decide +kernel
  exact g ⟨q, h⟩
theorem low_set (C : Nat) : (litB C 32).set 31 (UInt8.ofNat (C / 256 ^ 31)) = litB C 32 := litB_set C C 31 fun _ _ _ => rfl
theorem encA_aff {P : Nat × Nat} (hP : onE P) {a : Nat × Nat × Nat} (ha : a.2.2 < p25) (h : RepN P a) : encA a = encN P := by
  obtain ⟨h1, h2⟩ := repN_aff hP ha h
  unfold encA encN
  rw [h1, h2]
set_option maxHeartbeats 4000000 in
set_option maxRecDepth 10000 in
theorem refEncode_any (X Y Z : Nat) (w : World) (HX : X < p25) (HY : Y < p25) (HZ : Z < p25) : Calls Try.prog 52 #[.agg (arrOf 48 (ptF X Y Z))] w fun e w' => ∃ v, e = .returned v ∧ Owns w' w.heap.size v (litB (encA (X, Y, Z)) 32) ∧ Below w.heap.size w w' := by
  have Bw0 := Below.refl w.heap.size w
  have HGS : Hid (∀ wq : World, Below w.heap.size w wq → w.heap.size ≤ wq.heap.size) := Lib.hid fun wq h => h.size
  replace HX := Lib.hid HX
  replace HY := Lib.hid HY
  replace HZ := Lib.hid HZ
  obtain ⟨A, hA⟩ := nat_var (mulP X (invP Z))
  obtain ⟨C, hC⟩ := nat_var (mulP Y (invP Z))
  have HC : Hid (C < p25) := Lib.hid (by rw [hC]; exact mulP_lt _ _)
  unfold encA
  dsimp only
  rw [← hA, ← hC]
  have HMX := Lib.hid fun w => refMul5_any X (invP Z) w HX.out (invP_lt _)
  have HMY := Lib.hid fun w => refMul5_any Y (invP Z) w HY.out (invP_lt _)
  rw [← hA] at HMX
  rw [← hC] at HMY
  clear hA hC
  go_enter Try.func52, Try.ntmps52
  go_wp2_with (first
    | (have hgo := Bw0; clear hgo
       refine wpList_box_row rfl 36 (.tmp 0) rfl 48 (ptF X Y Z) rfl ?_
       intro b_t1 w1 lk r_t1 kk
       have l_t1 := Nat.le_trans (HGS.out _ Bw0) lk
       have Bw1 := Bw0.trans (kk.mono (HGS.out _ Bw0))
       clear Bw0 kk lk)
    | (have hgo := Bw1; clear hgo
       refine wpList_load_as rfl 34 (.tmp 6) rfl 16 (feF Z) arrFe r_t1 rfl (by omega) (fun i hi => ptF_z _ _ _ i hi) ?_
       have Bw2 := Bw1
       clear Bw1)
    | (have hgo := Bw2; clear hgo
       go_at_call 49
       refine (refInv5_any Z _ HZ.out).mono ?_
       rintro e w5 ⟨rfl, kk⟩
       replace r_t1 := World.rowIs.of_block r_t1 (kk.block _ (World.rowIs.lt r_t1))
       have Bw3 := Bw2.trans (kk.mono (HGS.out _ Bw2))
       clear Bw2 kk)
    | (have hgo := Bw3; clear hgo
       refine wpList_alloc_row rfl 34 rfl 16 (u64f fun _ => 0) zeroFe ?_
       intro b_t3 w6 lk r_t3 kk
       have n_t1_t3 : b_t1 ≠ b_t3 := Nat.ne_of_lt (Nat.lt_of_lt_of_le (World.rowIs.lt r_t1) lk)
       have l_t3 := Nat.le_trans (HGS.out _ Bw3) lk
       replace r_t1 := World.rowIs.of_block r_t1 (kk.block _ (World.rowIs.lt r_t1))
       have Bw4 := Bw3.trans (kk.mono (HGS.out _ Bw3))
       clear Bw3 kk lk)
    | (have hgo := Bw4; clear hgo
       refine wpList_store_as rfl 34 (.tmp 3) (.tmp 8) rfl 16 (feF (invP Z)) arrFe r_t3 rfl rfl (by omega) (fun _ _ => rfl) (fun i hi => putN_whole hi) ?_
       intro w7 q gk
       replace r_t1 := gb_rowIs r_t1 gk n_t1_t3
       replace r_t3 := q
       have Bw5 := Bw4.grown gk (HGS.out _ Bw4) (by intro k hk; cases hk; exact l_t3)
       clear Bw4 gk q)
    | (have hgo := Bw5; clear hgo
       refine wpList_load_as rfl 34 (.tmp 9) rfl 16 (feF X) arrFe r_t1 rfl (by omega) (fun i hi => ptF_x _ _ _ i hi) ?_
       have Bw6 := Bw5
       clear Bw5)
    | (have hgo := Bw6; clear hgo
       refine wpList_load_as rfl 34 (.tmp 3) rfl 16 (feF (invP Z)) arrFe r_t3 rfl (by omega) (fun i hi => by rw [Nat.zero_add]) ?_
       have Bw7 := Bw6
       clear Bw6)
    | (have hgo := Bw7; clear hgo
       go_at_call 44
       refine (HMX.out _).mono ?_
       rintro e w11 ⟨rfl, kk⟩
       replace r_t1 := World.rowIs.of_block r_t1 (kk.block _ (World.rowIs.lt r_t1))
       replace r_t3 := World.rowIs.of_block r_t3 (kk.block _ (World.rowIs.lt r_t3))
       have Bw8 := Bw7.trans (kk.mono (HGS.out _ Bw7))
       clear Bw7 kk)
    | (have hgo := Bw8; clear hgo
       refine wpList_alloc_row rfl 34 rfl 16 (u64f fun _ => 0) zeroFe ?_
       intro b_t4 w12 lk r_t4 kk
       have n_t1_t4 : b_t1 ≠ b_t4 := Nat.ne_of_lt (Nat.lt_of_lt_of_le (World.rowIs.lt r_t1) lk)
       have n_t3_t4 : b_t3 ≠ b_t4 := Nat.ne_of_lt (Nat.lt_of_lt_of_le (World.rowIs.lt r_t3) lk)
       have l_t4 := Nat.le_trans (HGS.out _ Bw8) lk
       replace r_t1 := World.rowIs.of_block r_t1 (kk.block _ (World.rowIs.lt r_t1))
       replace r_t3 := World.rowIs.of_block r_t3 (kk.block _ (World.rowIs.lt r_t3))
       have Bw9 := Bw8.trans (kk.mono (HGS.out _ Bw8))
       clear Bw8 kk lk)
    | (have hgo := Bw9; clear hgo
       refine wpList_store_as rfl 34 (.tmp 4) (.tmp 12) rfl 16 (feF A) arrFe r_t4 rfl rfl (by omega) (fun _ _ => rfl) (fun i hi => putN_whole hi) ?_
       intro w13 q gk
       replace r_t1 := gb_rowIs r_t1 gk n_t1_t4
       replace r_t3 := gb_rowIs r_t3 gk n_t3_t4
       replace r_t4 := q
       have Bw10 := Bw9.grown gk (HGS.out _ Bw9) (by intro k hk; cases hk; exact l_t4)
       clear Bw9 gk q)
    | (have hgo := Bw10; clear hgo
       refine wpList_load_as rfl 34 (.tmp 13) rfl 16 (feF Y) arrFe r_t1 rfl (by omega) (fun i hi => ptF_y _ _ _ i hi) ?_
       have Bw11 := Bw10
       clear Bw10)
    | (have hgo := Bw11; clear hgo
       refine wpList_load_as rfl 34 (.tmp 3) rfl 16 (feF (invP Z)) arrFe r_t3 rfl (by omega) (fun i hi => by rw [Nat.zero_add]) ?_
       have Bw12 := Bw11
       clear Bw11)
    | (have hgo := Bw12; clear hgo
       go_at_call 44
       refine (HMY.out _).mono ?_
       rintro e w17 ⟨rfl, kk⟩
       replace r_t1 := World.rowIs.of_block r_t1 (kk.block _ (World.rowIs.lt r_t1))
       replace r_t3 := World.rowIs.of_block r_t3 (kk.block _ (World.rowIs.lt r_t3))
       replace r_t4 := World.rowIs.of_block r_t4 (kk.block _ (World.rowIs.lt r_t4))
       have Bw13 := Bw12.trans (kk.mono (HGS.out _ Bw12))
       clear Bw12 kk)
    | (have hgo := Bw13; clear hgo
       go_at_call 63
       refine (refBytes_any C _).mono ?_
       rintro e w9 ⟨v9, rfl, o9, kk⟩
       replace r_t1 := World.rowIs.of_block r_t1 (kk.block _ (World.rowIs.lt r_t1))
       replace r_t3 := World.rowIs.of_block r_t3 (kk.block _ (World.rowIs.lt r_t3))
       replace r_t4 := World.rowIs.of_block r_t4 (kk.block _ (World.rowIs.lt r_t4))
       have o5 := o9.lower (HGS.out _ Bw13)
       have Bw14 := Bw13.trans (kk.mono (HGS.out _ Bw13))
       clear Bw13 kk o9))
  have h31 : 31 < (litB C 32).length := by rw [litB_length]; decide
  obtain ⟨g, cap, hv, hg, hgs, hcell, hfr⟩ := o5.open_cons (by rw [litB_length]; decide)
  rw [litB_length] at hv
  subst hv
  have hc := hcell 31 h31
  have hf := hfr 31
  rw [litB_at, high_old C HC.out] at hc
  have hql := high_lt C HC.out
  obtain ⟨q, hq⟩ := nat_var (C / 256 ^ 31)
  rw [← hq] at hc hql
  have hdc := World.rowIs.cell r_t4 (i := 0) (by omega)
  have hpar : dig A 0 % 2 = A % 2 := by rw [dig_zero]; omega
  have hd0 := dig_lt A 0
  obtain ⟨d, hd⟩ := nat_var (dig A 0)
  rw [← hd] at hpar hd0
  have hm := mask64 d 1 (by omega) (by decide) 1 rfl
  rw [show (2 : Nat) ^ 1 = 2 from rfl, hpar] at hm
  unfold feF u64f at hdc
  rw [← hd] at hdc
  have HQ := Lib.hid hq
  rcases (show A % 2 = 0 ∨ A % 2 = 1 by omega) with hA2 | hA2
  · have HA2 := Lib.hid hA2
    rw [hA2] at hm
    have hor := or_0 q hql
    have hs := Owns.set (j := 31) o5 (by rw [litB_length]) (UInt8.ofNat (C / 256 ^ 31))
    rw [low_set, high_old C HC.out, ← hq] at hs
    have HS := Lib.hid hs
    have HB := Lib.hid Bw14
    clear hq hd hpar hA2 hs hd0 hcell hfr Bw14 r_t1 r_t3
    go_region
    go_wp2
    go_ret
    exact ⟨_, rfl, by rw [HA2.out, Nat.zero_mul, Nat.add_zero]; exact HS.out.drew, (HB.out.setCell (p := ⟨g, 31, none⟩) hg (.int .u8 (q : Int))).drew⟩
  · have HA2 := Lib.hid hA2
    rw [hA2] at hm
    have hor := or_128 q hql
    have hs := Owns.set (j := 31) o5 (by rw [litB_length]) (UInt8.ofNat ((C + top) / 256 ^ 31))
    rw [high_set, high_new C HC.out, ← hq] at hs
    have HS := Lib.hid hs
    have HB := Lib.hid Bw14
    clear hq hd hpar hA2 hs hd0 hcell hfr Bw14 r_t1 r_t3
    go_region
    go_wp2
    go_ret
    exact ⟨_, rfl, by rw [HA2.out, Nat.one_mul]; exact HS.out.drew, (HB.out.setCell (p := ⟨g, 31, none⟩) hg (.int .u8 ((q + 128 : Nat) : Int))).drew⟩
end Go.Proofs.Ytphkmaihnbhgoaa

/- The document's points: the point that bytes stand for, in one; the base point. -/
namespace Go.Proofs.Ytphkmaihnbhgoaa
open Go.RowKit Go.Deep
set_option linter.unusedSimpArgs false
set_option linter.unusedVariables false

def decP (l : List UInt8) : Nat × Nat := (decN l).getD (0, 1)
def decE (l : List UInt8) : Int := if (decN l).isSome then 0 else 12
theorem refDecode_any (v : Value) (l : List UInt8) (w : World) (h : Bs w v l) : Calls Try.prog 11 #[v] w fun e w' => e = .returned (.tuple #[.agg (arrOf 48 (ptF (decP l).1 (decP l).2 1)), .int .i64 (decE l)]) ∧ Below w.heap.size w w' := by
  by_cases hl : l.length = 32
  · by_cases hY : numL l 32 % top < p25
    · cases hx : decX (numL l 32 % top) with
      | none =>
        have e : decN l = none := by unfold decN; rw [if_pos ⟨hl, hY⟩, hx]; rfl
        unfold decP decE
        rw [e]
        exact refDecode_3 v l w h hl hY hx
      | some x =>
        have hs : numL l 32 / top < 2 := by
          rw [(numL_cut l hl).2]
          exact Nat.div_lt_of_lt_mul (UInt8.toNat_lt _)
        by_cases ho : numL l 32 / top = 1
        · by_cases hx0 : x = 0
          · have e : decN l = none := by unfold decN; rw [if_pos ⟨hl, hY⟩, hx, Option.bind_some, if_pos ⟨ho, hx0⟩]
            unfold decP decE
            rw [e]
            exact refDecode_4 v l w h hl hY x hx ho hx0
          · have e : decN l = some (oppP x, numL l 32 % top) := by unfold decN; rw [if_pos ⟨hl, hY⟩, hx, Option.bind_some, if_neg (fun k => hx0 k.2), if_pos ho]
            unfold decP decE
            rw [e]
            exact refDecode_7 v l w h hl hY x hx ho hx0
        · have ho0 : numL l 32 / top = 0 := (show ∀ s : Nat, s < 2 → s ≠ 1 → s = 0 by omega) _ hs ho
          have e : decN l = some (x, numL l 32 % top) := by unfold decN; rw [if_pos ⟨hl, hY⟩, hx, Option.bind_some, if_neg (fun k => ho k.1), if_neg ho]
          unfold decP decE
          rw [e]
          by_cases hx0 : x = 0
          · exact refDecode_5 v l w h hl hY x hx ho0 hx0
          · exact refDecode_6 v l w h hl hY x hx ho0 hx0
    · have e : decN l = none := by unfold decN; rw [if_neg (fun k => hY k.2)]
      unfold decP decE
      rw [e]
      exact refDecode_2 v l w h hl hY
  · have e : decN l = none := by unfold decN; rw [if_neg (fun k => hl k.1)]
    unfold decP decE
    rw [e]
    exact refDecode_1 v l w h hl
theorem base_enc : encN ptB = ptB.2 := by decide +kernel
end Go.Proofs.Ytphkmaihnbhgoaa

/- The document's StrictSc. -/
namespace Go.Proofs.Ytphkmaihnbhgoaa
open Go.RowKit Go.Deep
set_option linter.unusedSimpArgs false
set_option linter.unusedVariables false

end Go.Proofs.Ytphkmaihnbhgoaa

/- The document's points as triples; clamped bytes. -/
namespace Go.Proofs.Ytphkmaihnbhgoaa
open Go.RowKit Go.Deep
set_option linter.unusedSimpArgs false
set_option linter.unusedVariables false

def ptT (t : Nat × Nat × Nat) : Nat → Value := ptF t.1 t.2.1 t.2.2
def LtT (t : Nat × Nat × Nat) : Prop := t.1 < p25 ∧ t.2.1 < p25 ∧ t.2.2 < p25
def pneg (t : Nat × Nat × Nat) : Nat × Nat × Nat := (oppP t.1, t.2.1, t.2.2)
def bT : Nat × Nat × Nat := (ptB.1, ptB.2, 1)
def dT (l : List UInt8) : Nat × Nat × Nat := ((decP l).1, (decP l).2, 1)
theorem LtT.mul (t : Nat × Nat × Nat) (V : Nat) : LtT (pmul dP t V) := pmulS_lt dP t V 256
theorem LtT.add (t u : Nat × Nat × Nat) : LtT (padd dP t u) := padd_lt dP t u
theorem LtT.neg {t : Nat × Nat × Nat} (h : LtT t) : LtT (pneg t) := ⟨oppP_lt _, h.2⟩
theorem LtT.base : LtT bT := ⟨ptB_on.1, ptB_on.2.1, one_ltp⟩
theorem LtT.dec (l : List UInt8) : LtT (dT l) := by
  unfold dT decP
  cases h : decN l with
  | none => exact ⟨p25_pos, one_ltp, one_ltp⟩
  | some P =>
    have g := (decN_some h).2.1
    exact ⟨g.1, g.2.1, one_ltp⟩
theorem tSmall_any (t : Nat × Nat × Nat) (w : World) (h : LtT t) : Calls Try.prog 15 #[.agg (arrOf 48 (ptT t))] w fun e w' => e = .returned (.bool (pSmall t)) ∧ Below w.heap.size w w' := refSmall8_any t.1 t.2.1 t.2.2 w h.1 h.2.1 h.2.2
theorem tEncode_any (t : Nat × Nat × Nat) (w : World) (h : LtT t) : Calls Try.prog 52 #[.agg (arrOf 48 (ptT t))] w fun e w' => ∃ v, e = .returned v ∧ Owns w' w.heap.size v (litB (encA t) 32) ∧ Below w.heap.size w w' := refEncode_any t.1 t.2.1 t.2.2 w h.1 h.2.1 h.2.2
theorem tDecode_any (v : Value) (l : List UInt8) (w : World) (h : Bs w v l) : Calls Try.prog 11 #[v] w fun e w' => e = .returned (.tuple #[.agg (arrOf 48 (ptT (dT l))), .int .i64 (decE l)]) ∧ Below w.heap.size w w' := refDecode_any v l w h
end Go.Proofs.Ytphkmaihnbhgoaa

/- The document's points by the group: what its triples stand for. -/
set_option linter.unusedSimpArgs false
set_option linter.unusedVariables false
namespace Go.Proofs.Ytphkmaihnbhgoaa
open Go.RowKit Go.Deep

/-- A triple stands for a point of the curve. -/
def RT (P : Nat × Nat) (t : Nat × Nat × Nat) : Prop := onE P ∧ LtT t ∧ RepN P t
theorem RT.base : RT ptB bT := ⟨ptB_on, LtT.base, repP_aff ptB⟩
theorem RT.zero : RT ptO (0, 1, 1) := ⟨ptO_on, ⟨p25_pos, one_ltp, one_ltp⟩, repP_zero⟩
theorem RT.mul {P : Nat × Nat} {t : Nat × Nat × Nat} (h : RT P t) {V : Nat} (hV : V < 2 ^ 256) : RT (mulE V P) (pmul dP t V) := ⟨mulE_on h.1 V, LtT.mul _ _, repN_mul h.1 h.2.2 hV⟩
theorem RT.add {P Q : Nat × Nat} {t u : Nat × Nat × Nat} (h : RT P t) (k : RT Q u) : RT (addE P Q) (padd dP t u) := ⟨addE_on h.1 k.1, LtT.add _ _, repN_add h.1 k.1 h.2.2 k.2.2⟩
theorem RT.neg {P : Nat × Nat} {t : Nat × Nat × Nat} (h : RT P t) : RT (negE P) (pneg t) := ⟨negE_on h.1, h.2.1.neg, repP_neg h.2.2 (Z_oppP _)⟩
theorem RT.dec (l : List UInt8) : RT (decP l) (dT l) := by
  refine ⟨?_, LtT.dec l, repP_aff (decP l)⟩
  unfold decP
  cases h : decN l with
  | none => exact ptO_on
  | some P => exact (decN_some h).2.1
theorem RT.same {P Q : Nat × Nat} {t u : Nat × Nat × Nat} (h : RT P t) (k : RT Q u) : pSame t u = decide (P = Q) := by
  have g := repN_same h.1 k.1 h.2.2 k.2.2
  unfold pSame
  by_cases e : P = Q
  · obtain ⟨g1, g2⟩ := g.1 e
    rw [decide_eq_true g1, decide_eq_true g2, decide_eq_true e]
    rfl
  · rw [decide_eq_false e]
    by_cases g1 : mulP t.1 u.2.2 = mulP u.1 t.2.2
    · have g2 : ¬ mulP t.2.1 u.2.2 = mulP u.2.1 t.2.2 := fun g2 => e (g.2 ⟨g1, g2⟩)
      rw [decide_eq_false g2, Bool.and_false]
    · rw [decide_eq_false g1, Bool.false_and]
theorem mulE_eight {P : Nat × Nat} (h : onE P) : mulE 8 P = addE (addE (addE P P) (addE P P)) (addE (addE P P) (addE P P)) := by
  have h2 : mulE 2 P = addE P P := by rw [show 2 = 1 + 1 from rfl, mulE_add h, mulE_one h]
  rw [show 8 = 2 * 2 * 2 from rfl, mulE_mul h, mulE_mul h]
  have k2 : ∀ {Q : Nat × Nat}, onE Q → mulE 2 Q = addE Q Q := fun {Q} hq => by rw [show 2 = 1 + 1 from rfl, mulE_add hq, mulE_one hq]
  rw [h2, k2 (addE_on h h), k2 (addE_on (addE_on h h) (addE_on h h))]
theorem RT.small {P : Nat × Nat} {t : Nat × Nat × Nat} (h : RT P t) : pSmall t = decide (mulE 8 P = ptO) := by
  rw [mulE_eight h.1]
  exact ((h.add h).add (h.add h) |>.add ((h.add h).add (h.add h))).same RT.zero
theorem RT.enc {P : Nat × Nat} {t : Nat × Nat × Nat} (h : RT P t) : encA t = encN P := encA_aff h.1 h.2.1.2.2 h.2.2
end Go.Proofs.Ytphkmaihnbhgoaa

/- The program's points, as numbers: its sum (d as a fraction), the zero one, so many times; what they stand for. -/
set_option linter.unusedSimpArgs false
set_option linter.unusedVariables false
namespace Go.Proofs.Ytphkmaihnbhgoaa

theorem d_un : Z ((dP : Int) * 121666 + 121665) := by
  have h1 := Z_oppP 121665
  have hne := small_ne 121666 (by decide) (by decide)
  have h2 := Z_invP (a := 121666) (Nat.lt_trans (show 121666 < 1000000 by decide) (by decide +kernel)) hne
  have h3 := Z_mulP (oppP 121665) (invP 121666)
  have e : (mulP (oppP 121665) (invP 121666) : Nat) = dP := rfl
  rw [e] at h3
  generalize ((oppP 121665 : Nat) : Int) = o at *
  generalize ((invP 121666 : Nat) : Int) = i at *
  generalize ((dP : Nat) : Int) = d at *
  exact Z.lin3 121666 o 1 h3 h2 h1 (by grind)
theorem repP_scale {P : Nat × Nat} {X Y W X' Y' W' u : Int} (h : RepP P X Y W) (hu : ¬ Z u) (hX : Z (X' - u * X)) (hY : Z (Y' - u * Y)) (hW : Z (W' - u * W)) : RepP P X' Y' W' := by
  obtain ⟨n, a, b⟩ := h
  unfold RepP
  generalize (P.1 : Int) = x at *
  generalize (P.2 : Int) = y at *
  refine ⟨fun hz => Z.not_mul hu n (Z.lin2 1 (-1) hz hW (by grind)), ?_, ?_⟩
  · exact Z.lin3 1 u (-x) hX a hW (by grind)
  · exact Z.lin3 1 u (-y) hY b hW (by grind)
/-- The sum as the program reckons it. -/
def qX (a b : Nat × Nat × Nat) : Nat := mulP a.1 b.1
def qY (a b : Nat × Nat × Nat) : Nat := mulP a.2.1 b.2.1
def qC (a b : Nat × Nat × Nat) : Nat := subP p25 (subP p25 (mulP (addP a.1 a.2.1) (addP b.1 b.2.1)) (qX a b)) (qY a b)
def qS (a b : Nat × Nat × Nat) : Nat := mulP (mulP a.2.2 b.2.2) 121666
def qO (a b : Nat × Nat × Nat) : Nat := mulP (qS a b) (mulP a.2.2 b.2.2)
def qN (a b : Nat × Nat × Nat) : Nat := mulP (mulP (qX a b) (qY a b)) 121665
def qA (a b : Nat × Nat × Nat) : Nat := subP p25 (qO a b) (qN a b)
def qB (a b : Nat × Nat × Nat) : Nat := addP (qO a b) (qN a b)
def qadd (a b : Nat × Nat × Nat) : Nat × Nat × Nat :=
  (mulP (mulP (qS a b) (qC a b)) (qB a b), mulP (mulP (qS a b) (addP (qY a b) (qX a b))) (qA a b), mulP (qA a b) (qB a b))
theorem poly_q (X1 Y1 X2 Y2 d z zz m f g h s o n a b c x y X3 Y3 W3 S V T : Int) (hd : Z (d * 121666 + 121665))
    (hm : Z (m - X1 * X2 * (Y1 * Y2))) (hzz : Z (zz - z * z)) (hx : Z (x - X1 * X2)) (hy : Z (y - Y1 * Y2))
    (hf : Z (f - (zz - d * m))) (hg : Z (g - (zz + d * m))) (hh : Z (h - (X1 * Y2 + X2 * Y1)))
    (hs : Z (s - z * 121666)) (ho : Z (o - s * z)) (hn : Z (n - x * y * 121665)) (ha : Z (a - (o - n))) (hb : Z (b - (o + n)))
    (hc : Z (c - ((X1 + Y1) * (X2 + Y2) - x - y)))
    (hX : Z (X3 - z * f * h)) (hY : Z (Y3 - z * g * (Y1 * Y2 + X1 * X2))) (hW : Z (W3 - f * g))
    (hS : Z (S - s * c * b)) (hV : Z (V - s * (y + x) * a)) (hT : Z (T - a * b)) :
    Z (S - 121666 * 121666 * X3) ∧ Z (V - 121666 * 121666 * Y3) ∧ Z (T - 121666 * 121666 * W3) := by
  have kc : Z (c - h) := Z.lin4 1 (-1) (-1) (-1) hc hx hy hh (by grind)
  have kxy : Z (x * y - m) := Z.lin3 y (X1 * X2) (-1) hx hy hm (by grind)
  have ko : Z (o - 121666 * zz) := Z.lin3 1 z (-121666) ho hs hzz (by grind)
  have kn : Z (n - m * 121665) := Z.lin2 1 121665 hn kxy (by grind)
  have kdm : Z (121666 * (d * m) + 121665 * m) := Z.lin1 m hd (by grind)
  have kb : Z (b - 121666 * f) := by
    have e := Z.lin4 1 1 1 (-121666) hb ko kn hf (show (b - 121666 * f + (121666 * (d * m) + 121665 * m) * (-1) : Int) = _ by grind)
    exact Z.lin2 1 1 e kdm (by grind)
  have ka : Z (a - 121666 * g) := by
    have e := Z.lin4 1 1 (-1) (-121666) ha ko kn hg (show (a - 121666 * g + (121666 * (d * m) + 121665 * m) : Int) = _ by grind)
    exact Z.lin2 1 (-1) e kdm (by grind)
  have ksb : Z (s * b - 121666 * 121666 * (z * f)) := Z.lin2 b (z * 121666) hs kb (by grind)
  have ksa : Z (s * a - 121666 * 121666 * (z * g)) := Z.lin2 a (z * 121666) hs ka (by grind)
  have kv : Z (y + x - (Y1 * Y2 + X1 * X2)) := Z.lin2 1 1 hx hy (by grind)
  refine ⟨?_, ?_, ?_⟩
  · exact Z.lin4 1 c (121666 * 121666 * (z * f)) (-(121666 * 121666)) hS ksb kc hX (by grind)
  · exact Z.lin4 1 (y + x) (121666 * 121666 * (z * g)) (-(121666 * 121666)) hV ksa kv hY (by grind)
  · exact Z.lin4 1 b (121666 * g) (-(121666 * 121666)) hT ka kb hW (by grind)
theorem under_ne : ¬ Z (121666 * 121666 : Int) := Z.not_mul (small_ne 121666 (by decide) (by decide)) (small_ne 121666 (by decide) (by decide))
theorem repN_qadd {P Q : Nat × Nat} (hP : onE P) (hQ : onE Q) {a b : Nat × Nat × Nat} (h1 : RepN P a) (h2 : RepN Q b) : RepN (addE P Q) (qadd a b) := by
  have h := repN_add hP hQ h1 h2
  have kz := Z_mulP a.2.2 b.2.2
  have km := (Z_mulP (mulP a.1 b.1) (mulP a.2.1 b.2.1)).trans ((Z_mulP a.1 b.1).mulc (Z_mulP a.2.1 b.2.1))
  have kzz := Z_mulP (pZ a b) (pZ a b)
  have ke := Z_mulP dP (mulP (mulP a.1 b.1) (mulP a.2.1 b.2.1))
  have kf := (Z_subP (mulP (pZ a b) (pZ a b)) (pE dP a b)).trans ((Z.rfl' _).subc ke)
  have kg := (Z_addP (mulP (pZ a b) (pZ a b)) (pE dP a b)).trans ((Z.rfl' _).addc ke)
  have kh := (Z_addP (mulP a.1 b.2.1) (mulP b.1 a.2.1)).trans ((Z_mulP a.1 b.2.1).addc (Z_mulP b.1 a.2.1))
  have kX := (Z_mulP (mulP (pZ a b) (pF dP a b)) (pH a b)).trans ((Z_mulP (pZ a b) (pF dP a b)).mulc (Z.rfl' _))
  have kY := (Z_mulP (mulP (pZ a b) (pG dP a b)) (addP (mulP a.2.1 b.2.1) (mulP a.1 b.1))).trans ((Z_mulP (pZ a b) (pG dP a b)).mulc ((Z_addP (mulP a.2.1 b.2.1) (mulP a.1 b.1)).trans ((Z_mulP a.2.1 b.2.1).addc (Z_mulP a.1 b.1))))
  have kW := Z_mulP (pF dP a b) (pG dP a b)
  have kx := Z_mulP a.1 b.1
  have ky := Z_mulP a.2.1 b.2.1
  have ks := Z_mulP (pZ a b) 121666
  have ko := Z_mulP (qS a b) (pZ a b)
  have kn := (Z_mulP (mulP (qX a b) (qY a b)) 121665).trans ((Z_mulP (qX a b) (qY a b)).mulc (Z.rfl' _))
  have ka := Z_subP (qO a b) (qN a b)
  have kb := Z_addP (qO a b) (qN a b)
  have kc := (Z_subP (subP p25 (mulP (addP a.1 a.2.1) (addP b.1 b.2.1)) (qX a b)) (qY a b)).trans (((Z_subP (mulP (addP a.1 a.2.1) (addP b.1 b.2.1)) (qX a b)).trans (((Z_mulP (addP a.1 a.2.1) (addP b.1 b.2.1)).trans ((Z_addP a.1 a.2.1).mulc (Z_addP b.1 b.2.1))).subc (Z.rfl' _))).subc (Z.rfl' _))
  have kS := (Z_mulP (mulP (qS a b) (qC a b)) (qB a b)).trans ((Z_mulP (qS a b) (qC a b)).mulc (Z.rfl' _))
  have kV := (Z_mulP (mulP (qS a b) (addP (qY a b) (qX a b))) (qA a b)).trans (((Z_mulP (qS a b) (addP (qY a b) (qX a b))).trans ((Z.rfl' _).mulc (Z_addP (qY a b) (qX a b)))).mulc (Z.rfl' _))
  have kT := Z_mulP (qA a b) (qB a b)
  obtain ⟨g1, g2, g3⟩ := poly_q _ _ _ _ _ _ _ _ _ _ _ _ _ _ _ _ _ _ _ _ _ _ _ _ _ d_un km kzz kx ky kf kg kh ks ko kn ka kb kc kX kY kW kS kV kT
  exact repP_scale h under_ne g1 g2 g3
theorem qadd_lt (a b : Nat × Nat × Nat) : LtT (qadd a b) := ⟨mulP_lt _ _, mulP_lt _ _, mulP_lt _ _⟩
/-- With all coordinates. -/
def fullT (t : Nat × Nat × Nat) : Nat × Nat × Nat := if t.2.2 = 0 then (0, 1, 1) else t
theorem fullT_no {t : Nat × Nat × Nat} (h : t.2.2 ≠ 0) : fullT t = t := if_neg h
theorem fullT_yes {t : Nat × Nat × Nat} (h : t.2.2 = 0) : fullT t = (0, 1, 1) := if_pos h
theorem LtT.zero : LtT (0, 1, 1) := ⟨p25_pos, one_ltp, one_ltp⟩
theorem LtT.none : LtT (0, 0, 0) := ⟨p25_pos, p25_pos, p25_pos⟩
theorem LtT.full {t : Nat × Nat × Nat} (h : LtT t) : LtT (fullT t) := by
  unfold fullT
  split
  · exact LtT.zero
  · exact h
def qAdd (t u : Nat × Nat × Nat) : Nat × Nat × Nat := qadd (fullT t) (fullT u)
def qSame (t u : Nat × Nat × Nat) : Bool := pSame (fullT t) (fullT u)
theorem LtT.qAdd (t u : Nat × Nat × Nat) : LtT (qAdd t u) := qadd_lt _ _
/-- A triple of the program's stands for a point of the curve. -/
def RQ (P : Nat × Nat) (t : Nat × Nat × Nat) : Prop := LtT t ∧ RT P (fullT t)
theorem RQ.of {P : Nat × Nat} {t : Nat × Nat × Nat} (h : RT P t) : RQ P t := by
  refine ⟨h.2.1, ?_⟩
  rw [fullT_no]
  · exact h
  · intro e
    refine h.2.2.1 ?_
    rw [e]
    exact Z.zero
theorem RQ.none : RQ ptO (0, 0, 0) := ⟨LtT.none, RT.zero⟩
theorem RQ.base : RQ ptB bT := RQ.of RT.base
theorem RQ.add {P Q : Nat × Nat} {t u : Nat × Nat × Nat} (h : RQ P t) (k : RQ Q u) : RQ (addE P Q) (qAdd t u) := RQ.of ⟨addE_on h.2.1 k.2.1, qadd_lt _ _, repN_qadd h.2.1 k.2.1 h.2.2.2 k.2.2.2⟩
theorem RT.only {P : Nat × Nat} (h : RT P (0, 1, 1)) : P = ptO := by
  have g := h.same RT.zero
  have e : pSame (0, 1, 1) (0, 1, 1) = true := by unfold pSame; simp
  rw [e] at g
  exact of_decide_eq_true g.symm
theorem negE_ptO : negE ptO = ptO := by decide +kernel
theorem RQ.neg {P : Nat × Nat} {t : Nat × Nat × Nat} (h : RQ P t) : RQ (negE P) (pneg t) := by
  by_cases hz : t.2.2 = 0
  · refine ⟨h.1.neg, ?_⟩
    rw [fullT_yes (show (pneg t).2.2 = 0 from hz)]
    have g := h.2
    rw [fullT_yes hz] at g
    rw [g.only, negE_ptO]
    exact RT.zero
  · have g := h.2
    rw [fullT_no hz] at g
    exact RQ.of g.neg
theorem RQ.same {P Q : Nat × Nat} {t u : Nat × Nat × Nat} (h : RQ P t) (k : RQ Q u) : qSame t u = decide (P = Q) := h.2.same k.2
theorem RQ.on {P : Nat × Nat} {t : Nat × Nat × Nat} (h : RQ P t) : onE P := h.2.1
/-- A sum over as many as K's lowest n digits say. -/
def qmulS (a : Nat × Nat × Nat) (K n : Nat) : Nat → Nat × Nat × Nat
  | 0 => (0, 0, 0)
  | i + 1 => if K / 2 ^ (n - (i + 1)) % 2 = 1 then qAdd (qAdd (qmulS a K n i) (qmulS a K n i)) a else qAdd (qmulS a K n i) (qmulS a K n i)
def qOft (a : Nat × Nat × Nat) (K n : Nat) : Nat × Nat × Nat := qmulS a K n n
theorem LtT.mulS (a : Nat × Nat × Nat) (K n : Nat) : ∀ i, LtT (qmulS a K n i)
  | 0 => LtT.none
  | i + 1 => by
    unfold qmulS
    split
    · exact LtT.qAdd _ _
    · exact LtT.qAdd _ _
theorem LtT.oft (a : Nat × Nat × Nat) (K n : Nat) : LtT (qOft a K n) := LtT.mulS a K n n
theorem RQ.mulS {P : Nat × Nat} {a : Nat × Nat × Nat} (h : RQ P a) {K n : Nat} (hK : K < 2 ^ n) : ∀ i, i ≤ n → RQ (mulE (K / 2 ^ (n - i)) P) (qmulS a K n i)
  | 0, _ => by
    rw [Nat.sub_zero, Nat.div_eq_of_lt hK]
    exact RQ.none
  | i + 1, hi => by
    have ih := RQ.mulS h hK i (by omega)
    have hd := ih.add ih
    rw [← mulE_add h.on] at hd
    have e : K / 2 ^ (n - (i + 1)) = K / 2 ^ (n - i) + K / 2 ^ (n - i) + K / 2 ^ (n - (i + 1)) % 2 := by
      rw [show n - i = (n - (i + 1)) + 1 by omega, Nat.pow_succ, ← Nat.div_div_eq_div_mul]
      omega
    rw [e]
    unfold qmulS
    by_cases hb : K / 2 ^ (n - (i + 1)) % 2 = 1
    · rw [if_pos hb, hb]
      exact hd.add h
    · rw [if_neg hb, show K / 2 ^ (n - (i + 1)) % 2 = 0 by omega, Nat.add_zero]
      exact hd
theorem RQ.oft {P : Nat × Nat} {a : Nat × Nat × Nat} (h : RQ P a) {K n : Nat} (hK : K < 2 ^ n) : RQ (mulE K P) (qOft a K n) := by
  have h2 := RQ.mulS h hK n (Nat.le_refl _)
  rwa [Nat.sub_self, Nat.pow_zero, Nat.div_one] at h2
def qMul (a : Nat × Nat × Nat) (K : Nat) : Nat × Nat × Nat := qOft a K 253
theorem ordL_253 : ordL < 2 ^ 253 := by decide +kernel
theorem RQ.mul {P : Nat × Nat} {a : Nat × Nat × Nat} (h : RQ P a) {K : Nat} (hK : K < ordL) : RQ (mulE K P) (qMul a K) := h.oft (Nat.lt_trans hK ordL_253)
/-- Its form. -/
def encQ (t : Nat × Nat × Nat) : Nat := encA (fullT t)
theorem RQ.enc {P : Nat × Nat} {t : Nat × Nat × Nat} (h : RQ P t) : encQ t = encN P := h.2.enc
/-- What is read. -/
def eT (l : List UInt8) : Nat × Nat × Nat := match decN l with
  | none => (0, 0, 0)
  | some P => (P.1, P.2, 1)
theorem RQ.dec (l : List UInt8) : RQ (decP l) (eT l) := by
  unfold eT decP
  cases h : decN l with
  | none => exact RQ.none
  | some P =>
    have g := RT.dec l
    unfold decP dT decP at g
    rw [h] at g
    exact RQ.of g
theorem LtT.read (l : List UInt8) : LtT (eT l) := (RQ.dec l).1
/-- What stands beside y. -/
def besS (Y : Nat) : Nat := mulP (mulP (subP p25 (mulP Y Y) 1) 121666) (invP (subP p25 121666 (mulP (mulP Y Y) 121665)))
theorem poly_bes (y yy d v s t i b n w : Int) (hd : Z (d * 121666 + 121665)) (hyy : Z (yy - y * y)) (hv : Z (v - (d * (y * y) + 1))) (hs : Z (s * v - (y * y - 1)))
    (ht : Z (t - (121666 - yy * 121665))) (hi : Z (t * i - 1)) (hw : Z (w - (yy - 1) * 121666)) (hb : Z (b - w * i)) (ht0 : ¬ Z t) (hv0 : ¬ Z v) : Z (b - s) := by
  have kt : Z (t - 121666 * v) := Z.lin4 1 (-121665) (-121666) (-(y * y)) ht hyy hv hd (by grind)
  have kbt : Z (b * t - w) := Z.lin2 t w hb hi (by grind)
  refine Z.cancel (a := t) ?_ ht0
  have kst : Z (s * t - 121666 * (y * y - 1)) := Z.lin2 s 121666 kt hs (by grind)
  exact Z.lin4 1 (-1) 1 121666 kbt kst hw hyy (by grind)
theorem besS_eq {Y : Nat} (hY : Y < p25) : besS Y = decS Y := by
  have hs := decS_Z Y
  have hv : ¬ Z ((dP : Int) * ((Y : Int) * Y) + 1) := by
    have h1 := v_ne Y
    have h2 := (Z_addP (mulP dP (mulP Y Y)) 1).trans (((Z_mulP dP (mulP Y Y)).trans ((Z.rfl' _).mulc (Z_mulP Y Y))).addc (Z.rfl' _))
    exact fun h => h1 (Z.lin2 1 1 h2 h (by grind))
  have ht := (Z_subP 121666 (mulP (mulP Y Y) 121665)).trans ((Z.rfl' _).subc (Z_mulP (mulP Y Y) 121665))
  have hyy := Z_mulP Y Y
  have ht0 : ¬ Z ((subP p25 121666 (mulP (mulP Y Y) 121665) : Nat) : Int) := by
    have hd := d_un
    have hu := small_ne 121666 (by decide) (by decide)
    have n := Z.not_mul hu hv
    intro h
    refine n ?_
    generalize ((subP p25 121666 (mulP (mulP Y Y) 121665) : Nat) : Int) = t at *
    generalize ((mulP Y Y : Nat) : Int) = yy at *
    generalize ((dP : Nat) : Int) = d at *
    generalize (Y : Int) = y at *
    exact Z.lin4 1 (-1) (121665) (y * y) h ht hyy hd (by grind)
  have hi := Z_invP (subP_lt 121666 (mulP (mulP Y Y) 121665)) ht0
  have hw := (Z_mulP (subP p25 (mulP Y Y) 1) 121666).trans ((Z_subP (mulP Y Y) 1).mulc (Z.rfl' _))
  have hb := Z_mulP (mulP (subP p25 (mulP Y Y) 1) 121666) (invP (subP p25 121666 (mulP (mulP Y Y) 121665)))
  exact Z.eq (mulP_lt _ _) (decS_lt Y) (poly_bes _ _ _ _ _ _ _ _ 0 _ d_un hyy (Z.zero.lin1 0 (by grind)) hs ht hi hw hb ht0 hv)
theorem bes_root {Y : Nat} (hY : Y < p25) : rootL p25 t25 (besS Y) = decX Y := by
  rw [besS_eq hY]
  rfl
end Go.Proofs.Ytphkmaihnbhgoaa
