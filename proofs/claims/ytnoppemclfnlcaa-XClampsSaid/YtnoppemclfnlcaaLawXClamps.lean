/- XClamps, walked. -/
import Derived.Test.YtnoppemclfnlcaaEdW
namespace Go.Proofs.Ytnoppemclfnlcaa
open Go.RowKit Go.Deep
set_option linter.unusedSimpArgs false
set_option linter.unusedVariables false

theorem clampN_same (l m : List UInt8) (h0 : (l.getD 0 0).toNat / 8 = (m.getD 0 0).toNat / 8) (h1 : ∀ i, 0 < i → i < 31 → (l.getD i 0).toNat = (m.getD i 0).toNat) (h2 : (l.getD 31 0).toNat % 64 = (m.getD 31 0).toNat % 64) : clampN l = clampN m := by
  have hb : ∀ i, i < 32 → byteN (clampN l) i = byteN (clampN m) i := fun i hi => by
    rcases (show i = 0 ∨ i = 31 ∨ (0 < i ∧ i < 31) by omega) with rfl | rfl | ⟨a, b⟩
    · rw [clamp_low, clamp_low, h0]
    · rw [clamp_high, clamp_high, h2]
    · rw [clamp_mid _ _ a b, clamp_mid _ _ a b, h1 i a b]
  have hl : litB (clampN l) 32 = litB (clampN m) 32 := List.ext_getElem (by rw [litB_length, litB_length]) fun i hi _ => by
    rw [litB_length] at hi
    rw [litB_at, litB_at]
    refine UInt8.toNat_inj.1 ?_
    rw [UInt8.toNat_ofNat', UInt8.toNat_ofNat']
    exact hb i hi
  have ht : 2 ^ 255 ≤ 2 * top := by decide +kernel
  have e1 := numL_lit (clampN l) (Nat.lt_of_lt_of_le (clampN_clamped l).2.1 ht)
  have e2 := numL_lit (clampN m) (Nat.lt_of_lt_of_le (clampN_clamped m).2.1 ht)
  rw [← e1, hl, e2]
theorem litB_byte (K i : Nat) (h : i < 32) : ((litB K 32).getD i 0).toNat = byteN K i := by
  rw [litB_getD K 32 i h, UInt8.toNat_ofNat']
  rfl
theorem clampN_own (l : List UInt8) : clampN (litB (clampN l) 32) = clampN l := by
  refine clampN_same _ _ ?_ (fun i h1 h2 => ?_) ?_
  · rw [litB_byte _ _ (by decide), clamp_low]
    omega
  · rw [litB_byte _ _ (by omega), clamp_mid _ _ h1 h2]
  · rw [litB_byte _ _ (by decide), clamp_high]
    omega
theorem clampN_set (l : List UInt8) (h : l.length = 32) (u z : Nat) (hu : u < 256) (hz : z < 256) (h0 : u / 8 = (l.getD 0 0).toNat / 8) (h31 : z % 64 = (l.getD 31 0).toNat % 64) : clampN ((l.set 0 (UInt8.ofNat u)).set 31 (UInt8.ofNat z)) = clampN l := by
  have hu' := UInt8.toNat_ofNat_of_lt' (show u < 256 from hu)
  have hz' := UInt8.toNat_ofNat_of_lt' (show z < 256 from hz)
  have g : ∀ i, i < 32 → ((l.set 0 (UInt8.ofNat u)).set 31 (UInt8.ofNat z)).getD i 0 = if i = 31 then UInt8.ofNat z else if i = 0 then UInt8.ofNat u else l.getD i 0 := fun i hi => by
    rw [List.getD_eq_getElem?_getD, List.getElem?_set]
    by_cases h1 : i = 31
    · subst h1
      rw [if_pos rfl, if_pos (by rw [List.length_set]; omega), if_pos rfl]
      rfl
    · rw [if_neg (Ne.symm h1), List.getElem?_set, if_neg h1]
      by_cases h2 : i = 0
      · subst h2
        rw [if_pos rfl, if_pos (by omega), if_pos rfl]
        rfl
      · rw [if_neg (Ne.symm h2), if_neg h2, List.getD_eq_getElem?_getD]
  refine clampN_same _ _ ?_ (fun i h1 h2 => ?_) ?_
  · rw [g 0 (by decide), if_neg (by decide), if_pos rfl, hu', h0]
  · rw [g i (by omega), if_neg (by omega), if_neg (by omega)]
  · rw [g 31 (by decide), if_pos rfl, hz', h31]
theorem and7N (x : Nat) (h : x < 256) : bits .and .u8 (x : Int) 7 = ((x % 8 : Nat) : Int) := by
  have g : ∀ q : Fin 256, bits .and .u8 ((q.val : Nat) : Int) 7 = ((q.val % 8 : Nat) : Int) := by decide +kernel
  exact g ⟨x, h⟩
theorem and63N (x : Nat) (h : x < 256) : bits .and .u8 (x : Int) 63 = ((x % 64 : Nat) : Int) := by
  have g : ∀ q : Fin 256, bits .and .u8 ((q.val : Nat) : Int) 63 = ((q.val % 64 : Nat) : Int) := by decide +kernel
  exact g ⟨x, h⟩
theorem and192N (x : Nat) (h : x < 256) : bits .and .u8 (x : Int) 192 = ((x / 64 * 64 : Nat) : Int) := by
  have g : ∀ q : Fin 256, bits .and .u8 ((q.val : Nat) : Int) 192 = ((q.val / 64 * 64 : Nat) : Int) := by decide +kernel
  exact g ⟨x, h⟩
theorem or7N (x t : Nat) (hx : x < 256) : bits .or .u8 ((x / 8 * 8 : Nat) : Int) ((t % 8 : Nat) : Int) = ((x / 8 * 8 + t % 8 : Nat) : Int) := by
  have g : ∀ q : Fin 32, ∀ r : Fin 8, bits .or .u8 ((q.val * 8 : Nat) : Int) ((r.val : Nat) : Int) = ((q.val * 8 + r.val : Nat) : Int) := by decide +kernel
  exact g ⟨x / 8, by omega⟩ ⟨t % 8, by omega⟩
theorem or192N (y t : Nat) (ht : t < 256) : bits .or .u8 ((y % 64 : Nat) : Int) ((t / 64 * 64 : Nat) : Int) = ((y % 64 + t / 64 * 64 : Nat) : Int) := by
  have g : ∀ q : Fin 64, ∀ r : Fin 4, bits .or .u8 ((q.val : Nat) : Int) ((r.val * 64 : Nat) : Int) = ((q.val + r.val * 64 : Nat) : Int) := by decide +kernel
  exact g ⟨y % 64, by omega⟩ ⟨t / 64, by omega⟩
set_option maxHeartbeats 8000000 in
set_option maxRecDepth 100000 in
theorem law_xClamps (w : World) (v0 : Value) (l0 : List UInt8) (h0 : Bs w v0 l0) (x1 : Int) (w1 : (Lit.int .u8 x1).wf = true) (x2 : Int) (w2 : (Lit.int .u8 x2).wf = true) : Calls Try.prog 6 #[v0, .int .u8 x1, .int .u8 x2] w fun e w' => e = .returned (.bool true) ∧ Below w.heap.size w w' := by
  obtain ⟨hx1, hy1⟩ := bd_u8 w1
  obtain ⟨hx2, hy2⟩ := bd_u8 w2
  obtain ⟨t, rfl⟩ := Int.eq_ofNat_of_zero_le hx1
  obtain ⟨s, rfl⟩ := Int.eq_ofNat_of_zero_le hx2
  clear hx1 hx2 w1 w2
  obtain ⟨ad0, n0, c0, rfl, e0, y0, z0, hB0⟩ := h0.shape
  by_cases d0 : n0 = 32
  · have hl0 : l0.length = 32 := by omega
    subst d0
    obtain ⟨p, hp⟩ := nat_var ((l0.getD 0 0).toNat)
    obtain ⟨q, hq⟩ := nat_var ((l0.getD 31 0).toNat)
    have hpl : p < 256 := by rw [hp]; exact UInt8.toNat_lt _
    have hql : q < 256 := by rw [hq]; exact UInt8.toNat_lt _
    have a1 := and248N p hpl
    have a2 := and7N t (by omega)
    have a3 := or7N p t hpl
    have b1 := and63N q hql
    have b2 := and192N s (by omega)
    have b3 := or192N q s (by omega)
    obtain ⟨u, hu⟩ := nat_var (p / 8 * 8 + t % 8)
    obtain ⟨z, hz⟩ := nat_var (q % 64 + s / 64 * 64)
    have HCM := Lib.hid (clampN_set l0 hl0 u z (by omega) (by omega) (by rw [← hp]; omega) (by rw [← hq]; omega))
    have HUL : Hid (u < 256) := Lib.hid (by omega)
    have HZL : Hid (z < 256) := Lib.hid (by omega)
    rw [← hu] at a3
    rw [← hz] at b3
    have HP : Hid (∀ h : 0 < l0.length, (l0[0]'h).toNat = p) := Lib.hid fun h => by rw [hp, List.getD_eq_getElem?_getD, List.getElem?_eq_getElem h]; rfl
    have HQ : Hid (∀ x, ∀ h : 31 < (l0.set 0 x).length, ((l0.set 0 x)[31]'h).toNat = q) := Lib.hid fun x h => by rw [List.getElem_set_ne (by decide), hq, List.getD_eq_getElem?_getD, List.getElem?_eq_getElem (by omega)]; rfl
    have HL0 := Lib.hid hl0
    generalize p / 8 * 8 = p2 at *
    generalize t % 8 = t2 at *
    generalize q % 64 = q2 at *
    generalize s / 64 * 64 = s2 at *
    have O0 := Owns.empty w
    have k0 := (Below.refl w.heap.size w).alloc (Nat.le_refl _) (.cells #[] 5)
    have F0 := Bs.below hB0 k0 (Nat.le_refl _)
    have f_s0 := F0
    have HGS : Hid (∀ wq : World, Below w.heap.size w wq → w.heap.size ≤ wq.heap.size) := Lib.hid fun wq h => h.size
    have HF0 := Lib.hid hB0
    clear h0 hB0 hp hq hu hz hpl hql e0 hl0
    go_enter Try.func6, Try.ntmps6
    go_wp2_with (first
      | (refine wpList_app rfl (.tmp 13) (.tmp 14) rfl w.heap.size _ _ [] l0 O0 F0 rfl rfl (by simp [HL0.out]) (by simp) ?_; intro v2 w2 ho hgr
         obtain ⟨g, cap, hv, hg, hgs, _, _⟩ := (show Owns w2 w.heap.size v2 l0 from ho).open_cons (by rw [HL0.out]; decide)
         rw [HL0.out] at hv
         subst hv
         have o2 : Owns w2 w.heap.size (.slice (some ⟨g, 0, none⟩) 32 cap) l0 := ho
         obtain ⟨hcap⟩ : Nonempty (32 ≤ cap) := by
           obtain ⟨_, _, he, hc, _⟩ := o2.bs
           injection he with _ _ he
           subst he
           rw [HL0.out] at hc
           exact ⟨hc⟩
         have B1 := k0.grown hgr (by simp) (fun k hk => by simp [Value.ownBlock] at hk; omega)
         clear f_s0
         clear O0 F0 k0 ho hgr)
      | refine wpList_load_byte rfl (.tmp 18) rfl 0 p o2 HL0.out.symm (by rw [HL0.out]; decide) rfl (HP.out _) ?_
      | (refine wpList_store_byte rfl (.tmp 24) (.tmp 23) rfl 0 u o2 HL0.out.symm hcap (by rw [HL0.out]; decide) rfl rfl HUL.out ?_; intro w3 o3 g3
         have B2 := B1.grown g3 (HGS.out _ B1) (by intro k hk; cases hk; exact hg)
         clear o2 B1 g3)
      | refine wpList_load_byte rfl (.tmp 27) rfl 31 q o3 (by rw [List.length_set, HL0.out]) (by rw [List.length_set, HL0.out]; decide) rfl (HQ.out _ _) ?_
      | (refine wpList_store_byte rfl (.tmp 33) (.tmp 32) rfl 31 z o3 (by rw [List.length_set, HL0.out]) hcap (by rw [List.length_set, HL0.out]; decide) rfl rfl HZL.out ?_; intro w4 o4 g4
         have B3 := B2.grown g4 (HGS.out _ B2) (by intro k hk; cases hk; exact hg)
         have f_s1 := o4.bs
         obtain ⟨M, hM⟩ : ∃ M, M = (l0.set 0 (UInt8.ofNat u)).set 31 (UInt8.ofNat z) := ⟨_, rfl⟩
         rw [← hM] at f_s1 HCM
         have f_s0 := HF0.out.below B3 (Nat.le_refl _)
         clear o3 o4 B2 g4 hM)
      | (go_at_call 10; refine (clampO_any _ _ _ f_s0).mono ?_; rintro e w5 ⟨v5, rfl, o5, k5⟩
         have f_s2 := o5.bs
         replace f_s0 := f_s0.below k5 (Nat.le_refl _)
         replace f_s1 := f_s1.below k5 (Nat.le_refl _)
         have B5 := B3.trans (k5.mono (HGS.out _ B3))
         clear B3 k5 o5))
    have B6 := B5.drew
    replace f_s0 := Bs.drew f_s0
    replace f_s1 := Bs.drew f_s1
    replace f_s2 := Bs.drew f_s2
    clear B5
    refine wp_region_po (Keep []) (Keep.refl _) (fun _ _ _ h1 h2 => h1.trans h2) (.rd 0 (.rd 3 .done)) #[true, false, false, true, false, false, false, false, false, false, false, false, false, false, false, false, false, false, false, false, false, false, false, false, false, false, false] [1, 2, 4, 5, 6, 7, 8, 9, 10, 11, 12, 13, 14, 15, 16, 17, 18, 19, 20, 21, 22, 23, 24, 25, 26] [some 37, some 38, some 40, some 41, some 42, some 43, some 44, some 45, some 46, some 47, some 48, some 49, some 50, some 51, some 52, some 53, some 54, some 55, some 56, some 57, some 58, some 59, some 60, some 61, some 6] [[], [0], [0], [2], [1, 3], [2, 4], [5], [5, 6], [5, 7], [5], [5, 9], [5, 8, 10], [5, 11], [7, 12], [13], [13, 14], [13, 15], [13], [13, 17], [13, 16, 18], [13, 19], [15, 20], [21], [21, 22], [0, 1, 2, 3, 4, 5, 6, 7, 8, 9, 10, 11, 12, 13, 14, 15, 16, 17, 18, 19, 20, 21, 22, 23]] [(0, []), (1, [0]), (2, [1]), (3, []), (4, [3, 1]), (5, [4]), (6, [2, 5]), (7, [6, 4]), (8, [7]), (9, [8, 7, 7]), (10, [9, 7]), (11, [7]), (12, [11, 7]), (13, [10, 12, 7]), (14, [7, 13]), (15, [14, 9]), (16, [15]), (17, [16, 15, 15]), (18, [17, 15]), (19, [15]), (20, [19, 15]), (21, [18, 20, 15]), (22, [15, 21]), (23, [22, 17]), (24, [23, 23]), (25, [23, 24]), (26, [25, 24, 0, 1, 2, 3, 4, 5, 6, 7, 8, 9, 10, 11, 12, 13, 14, 15, 16, 17, 18, 19, 20, 21, 22, 23, 24, 25])] 9 (by kernel_rfl) (by kernel_rfl) (by decide) (by kernel_rfl) (by kernel_rfl) (by kernel_rfl) rfl (fun d _ _ _ _ h => by cases d <;> exact h) ?_
    refine lintz_pure 36 (Op.move (Operand.tmp 0)) 22 (.slice ad0 32 c0) rfl rfl rfl rfl rfl (fun w0 hb => by unfold mkOp; go_simp; all_goals (with_reducible rfl)) ?_
    simp only [Act.put, List.setIfInBounds_toArray, List.set_cons_zero, List.set_cons_succ]
    refine lintz_pure 39 (Op.move (Operand.tmp 7)) 22 (.slice (some ⟨g, 0, none⟩) 32 cap) rfl rfl rfl rfl rfl (fun w0 hb => by unfold mkOp; go_simp; all_goals (with_reducible rfl)) ?_
    simp only [Act.put, List.setIfInBounds_toArray, List.set_cons_zero, List.set_cons_succ]
    refine lintz_leaf ?_
    have HWF : poWf [.own (litB (ladder 9 (clampN (l0))) 32) 25, .val (.string ⟨(litB (ladder 9 (clampN (l0))) 32).toArray⟩), .own (litB (ladder 9 (clampN (M))) 32) 25, .val (.string ⟨(litB (ladder 9 (clampN (M))) 32).toArray⟩), .val (.bool true), .val (.bool true), .val (v5), .own (litB (clampN (litB (clampN l0) 32)) 32) 25, .val (.string ⟨(litB (clampN (litB (clampN l0) 32)) 32).toArray⟩), .val (v5), .val (.string ⟨(litB (clampN l0) 32).toArray⟩), .val (.bool true), .val (.bool true), .val (.bool true), .val (.slice (some ⟨g, 0, none⟩) 32 cap), .own (litB (clampN (M)) 32) 25, .val (.string ⟨(litB (clampN (M)) 32).toArray⟩), .val (v5), .val (.string ⟨(litB (clampN l0) 32).toArray⟩), .val (.bool true), .val (.bool true), .val (.bool true), .val (.bool true), .val (.bool true), .val (.bool true)] [] = true := by kernel_rfl
    refine ⟨JG [.own (litB (ladder 9 (clampN (l0))) 32) 25, .val (.string ⟨(litB (ladder 9 (clampN (l0))) 32).toArray⟩), .own (litB (ladder 9 (clampN (M))) 32) 25, .val (.string ⟨(litB (ladder 9 (clampN (M))) 32).toArray⟩), .val (.bool true), .val (.bool true), .val (v5), .own (litB (clampN (litB (clampN l0) 32)) 32) 25, .val (.string ⟨(litB (clampN (litB (clampN l0) 32)) 32).toArray⟩), .val (v5), .val (.string ⟨(litB (clampN l0) 32).toArray⟩), .val (.bool true), .val (.bool true), .val (.bool true), .val (.slice (some ⟨g, 0, none⟩) 32 cap), .own (litB (clampN (M)) 32) 25, .val (.string ⟨(litB (clampN (M)) 32).toArray⟩), .val (v5), .val (.string ⟨(litB (clampN l0) 32).toArray⟩), .val (.bool true), .val (.bool true), .val (.bool true), .val (.bool true), .val (.bool true), .val (.bool true)] [] _, JG.start (Nat.le_refl _) (fun i hi => absurd hi (Nat.not_lt_zero _)), fun m gz wa p az hp hm hmp hcl hdn hE hJ hS hO => ?_, fun gz wa hE hJ => ?_⟩
    · rcases (show p = 0 ∨ p = 1 ∨ p = 2 ∨ p = 3 ∨ p = 4 ∨ p = 5 ∨ p = 6 ∨ p = 7 ∨ p = 8 ∨ p = 9 ∨ p = 10 ∨ p = 11 ∨ p = 12 ∨ p = 13 ∨ p = 14 ∨ p = 15 ∨ p = 16 ∨ p = 17 ∨ p = 18 ∨ p = 19 ∨ p = 20 ∨ p = 21 ∨ p = 22 ∨ p = 23 ∨ p = 24 by have h9 : p < 25 := hp; omega) with rfl | rfl | rfl | rfl | rfl | rfl | rfl | rfl | rfl | rfl | rfl | rfl | rfl | rfl | rfl | rfl | rfl | rfl | rfl | rfl | rfl | rfl | rfl | rfl | rfl
      · have e36 : az.eval (.tmp 36) = .slice ad0 32 c0 := hO 36 rfl
        exact po_owns 37 14 #[Operand.tmp 36] #[22] _ HWF hJ rfl hE (base_any _ _ _ (Bs.below f_s0 (Keep.nil hE) (Nat.le_refl _))) rfl rfl rfl rfl rfl Try.func14 (by kernel_rfl) (by kernel_rfl) (by simp only [List.map_toArray, List.map_cons, List.map_nil, eval_const, eval_func, e36] <;> rfl)
      · have e37 := hS 0 37 rfl (hdn 0 (by decide)) (Nat.le_of_ble_eq_true rfl)
        exact po_run 38 (Op.convert 22 9 (Operand.tmp 37)) 9 HWF hJ rfl hE rfl rfl rfl rfl rfl rfl (exec_str _ _ _ e37 (hJ.own (hdn 0 (by decide)) rfl (po_never hm (Nat.le_refl _))).bs)
      · have e39 : az.eval (.tmp 39) = .slice (some ⟨g, 0, none⟩) 32 cap := hO 39 rfl
        exact po_owns 40 14 #[Operand.tmp 39] #[22] _ HWF hJ rfl hE (base_any _ _ _ (Bs.below f_s1 (Keep.nil hE) (Nat.le_refl _))) rfl rfl rfl rfl rfl Try.func14 (by kernel_rfl) (by kernel_rfl) (by simp only [List.map_toArray, List.map_cons, List.map_nil, eval_const, eval_func, e39] <;> rfl)
      · have e40 := hS 2 40 rfl (hdn 2 (by decide)) (Nat.le_of_ble_eq_true rfl)
        exact po_run 41 (Op.convert 22 9 (Operand.tmp 40)) 9 HWF hJ rfl hE rfl rfl rfl rfl rfl rfl (exec_str _ _ _ e40 (hJ.own (hdn 2 (by decide)) rfl (po_never hm (Nat.le_refl _))).bs)
      · have e38 := (hS 1 38 rfl (hdn 1 (by decide)) (Nat.le_of_ble_eq_true rfl)).trans (hJ.says (hdn 1 (by decide)) rfl)
        have e41 := (hS 3 41 rfl (hdn 3 (by decide)) (Nat.le_of_ble_eq_true rfl)).trans (hJ.says (hdn 3 (by decide)) rfl)
        exact po_run 42 (Op.binOp BinOp.eql 9 (Operand.tmp 38) (Operand.tmp 41) 9) _ HWF hJ rfl hE rfl rfl rfl rfl rfl rfl (exec_str_yes _ _ _ _ (by rw [HCM.out]) e38 e41)
      · have e42 := (hS 4 42 rfl (hdn 4 (by decide)) (Nat.le_of_ble_eq_true rfl)).trans (hJ.says (hdn 4 (by decide)) rfl)
        exact po_run 43 (Op.move (Operand.tmp 42)) _ HWF hJ rfl hE rfl rfl rfl rfl rfl rfl (by first | (simp only [execOp, mkOp, eval_const, e42]; done) | (simp only [execOp, mkOp, eval_const, e42]; go_simp))
      · have e43 := (hS 5 43 rfl (hdn 5 (by decide)) (Nat.le_of_ble_eq_true rfl)).trans (hJ.says (hdn 5 (by decide)) rfl)
        have e8 : az.eval (.tmp 8) = v5 := hO 8 rfl
        exact po_run 44 (Op.move (Operand.tmp 8)) _ HWF hJ rfl hE rfl rfl rfl rfl rfl (wanted_of rfl rfl e43) (by first | (simp only [execOp, mkOp, eval_const, e8]; done) | (simp only [execOp, mkOp, eval_const, e8]; go_simp))
      · have e43 := (hS 5 43 rfl (hdn 5 (by decide)) (Nat.le_of_ble_eq_true rfl)).trans (hJ.says (hdn 5 (by decide)) rfl)
        have e44 := (hS 6 44 rfl (hdn 6 (by decide)) (Nat.le_of_ble_eq_true rfl)).trans (hJ.says (hdn 6 (by decide)) rfl)
        exact po_owns 45 10 #[Operand.tmp 44] #[22] _ HWF hJ rfl hE (clampO_any _ _ _ (Bs.below f_s2 (Keep.nil hE) (Nat.le_refl _))) rfl rfl rfl rfl (wanted_of rfl rfl e43) Try.func10 (by kernel_rfl) (by kernel_rfl) (by simp only [List.map_toArray, List.map_cons, List.map_nil, eval_const, eval_func, e44] <;> rfl)
      · have e43 := (hS 5 43 rfl (hdn 5 (by decide)) (Nat.le_of_ble_eq_true rfl)).trans (hJ.says (hdn 5 (by decide)) rfl)
        have e45 := hS 7 45 rfl (hdn 7 (by decide)) (Nat.le_of_ble_eq_true rfl)
        exact po_run 46 (Op.convert 22 9 (Operand.tmp 45)) 9 HWF hJ rfl hE rfl rfl rfl rfl rfl (wanted_of rfl rfl e43) (exec_str _ _ _ e45 (hJ.own (hdn 7 (by decide)) rfl (po_never hm (Nat.le_refl _))).bs)
      · have e43 := (hS 5 43 rfl (hdn 5 (by decide)) (Nat.le_of_ble_eq_true rfl)).trans (hJ.says (hdn 5 (by decide)) rfl)
        have e8 : az.eval (.tmp 8) = v5 := hO 8 rfl
        exact po_run 47 (Op.move (Operand.tmp 8)) _ HWF hJ rfl hE rfl rfl rfl rfl rfl (wanted_of rfl rfl e43) (by first | (simp only [execOp, mkOp, eval_const, e8]; done) | (simp only [execOp, mkOp, eval_const, e8]; go_simp))
      · have e43 := (hS 5 43 rfl (hdn 5 (by decide)) (Nat.le_of_ble_eq_true rfl)).trans (hJ.says (hdn 5 (by decide)) rfl)
        have e47 := (hS 9 47 rfl (hdn 9 (by decide)) (Nat.le_of_ble_eq_true rfl)).trans (hJ.says (hdn 9 (by decide)) rfl)
        exact po_run 48 (Op.convert 22 9 (Operand.tmp 47)) 9 HWF hJ rfl hE rfl rfl rfl rfl rfl (wanted_of rfl rfl e43) (exec_str _ _ _ e47 (Bs.below f_s2 (Keep.nil hE) (Nat.le_refl _)))
      · have e43 := (hS 5 43 rfl (hdn 5 (by decide)) (Nat.le_of_ble_eq_true rfl)).trans (hJ.says (hdn 5 (by decide)) rfl)
        have e46 := (hS 8 46 rfl (hdn 8 (by decide)) (Nat.le_of_ble_eq_true rfl)).trans (hJ.says (hdn 8 (by decide)) rfl)
        have e48 := (hS 10 48 rfl (hdn 10 (by decide)) (Nat.le_of_ble_eq_true rfl)).trans (hJ.says (hdn 10 (by decide)) rfl)
        exact po_run 49 (Op.binOp BinOp.eql 9 (Operand.tmp 46) (Operand.tmp 48) 9) _ HWF hJ rfl hE rfl rfl rfl rfl rfl (wanted_of rfl rfl e43) (exec_str_yes _ _ _ _ (by rw [clampN_own]) e46 e48)
      · have e43 := (hS 5 43 rfl (hdn 5 (by decide)) (Nat.le_of_ble_eq_true rfl)).trans (hJ.says (hdn 5 (by decide)) rfl)
        have e49 := (hS 11 49 rfl (hdn 11 (by decide)) (Nat.le_of_ble_eq_true rfl)).trans (hJ.says (hdn 11 (by decide)) rfl)
        exact po_run 50 (Op.pick (Operand.tmp 43) (Operand.tmp 49) (Operand.const (Value.bool false))) _ HWF hJ rfl hE rfl rfl rfl rfl rfl rfl (by first | (simp only [execOp, mkOp, eval_const, e43, e49]; done) | (simp only [execOp, mkOp, eval_const, e43, e49]; go_simp))
      · have e50 := (hS 12 50 rfl (hdn 12 (by decide)) (Nat.le_of_ble_eq_true rfl)).trans (hJ.says (hdn 12 (by decide)) rfl)
        exact po_run 51 (Op.move (Operand.tmp 50)) _ HWF hJ rfl hE rfl rfl rfl rfl rfl rfl (by first | (simp only [execOp, mkOp, eval_const, e50]; done) | (simp only [execOp, mkOp, eval_const, e50]; go_simp))
      · have e51 := (hS 13 51 rfl (hdn 13 (by decide)) (Nat.le_of_ble_eq_true rfl)).trans (hJ.says (hdn 13 (by decide)) rfl)
        have e7 : az.eval (.tmp 7) = .slice (some ⟨g, 0, none⟩) 32 cap := hO 7 rfl
        exact po_run 52 (Op.move (Operand.tmp 7)) _ HWF hJ rfl hE rfl rfl rfl rfl rfl (wanted_of rfl rfl e51) (by first | (simp only [execOp, mkOp, eval_const, e7]; done) | (simp only [execOp, mkOp, eval_const, e7]; go_simp))
      · have e51 := (hS 13 51 rfl (hdn 13 (by decide)) (Nat.le_of_ble_eq_true rfl)).trans (hJ.says (hdn 13 (by decide)) rfl)
        have e52 := (hS 14 52 rfl (hdn 14 (by decide)) (Nat.le_of_ble_eq_true rfl)).trans (hJ.says (hdn 14 (by decide)) rfl)
        exact po_owns 53 10 #[Operand.tmp 52] #[22] _ HWF hJ rfl hE (clampO_any _ _ _ (Bs.below f_s1 (Keep.nil hE) (Nat.le_refl _))) rfl rfl rfl rfl (wanted_of rfl rfl e51) Try.func10 (by kernel_rfl) (by kernel_rfl) (by simp only [List.map_toArray, List.map_cons, List.map_nil, eval_const, eval_func, e52] <;> rfl)
      · have e51 := (hS 13 51 rfl (hdn 13 (by decide)) (Nat.le_of_ble_eq_true rfl)).trans (hJ.says (hdn 13 (by decide)) rfl)
        have e53 := hS 15 53 rfl (hdn 15 (by decide)) (Nat.le_of_ble_eq_true rfl)
        exact po_run 54 (Op.convert 22 9 (Operand.tmp 53)) 9 HWF hJ rfl hE rfl rfl rfl rfl rfl (wanted_of rfl rfl e51) (exec_str _ _ _ e53 (hJ.own (hdn 15 (by decide)) rfl (po_never hm (Nat.le_refl _))).bs)
      · have e51 := (hS 13 51 rfl (hdn 13 (by decide)) (Nat.le_of_ble_eq_true rfl)).trans (hJ.says (hdn 13 (by decide)) rfl)
        have e8 : az.eval (.tmp 8) = v5 := hO 8 rfl
        exact po_run 55 (Op.move (Operand.tmp 8)) _ HWF hJ rfl hE rfl rfl rfl rfl rfl (wanted_of rfl rfl e51) (by first | (simp only [execOp, mkOp, eval_const, e8]; done) | (simp only [execOp, mkOp, eval_const, e8]; go_simp))
      · have e51 := (hS 13 51 rfl (hdn 13 (by decide)) (Nat.le_of_ble_eq_true rfl)).trans (hJ.says (hdn 13 (by decide)) rfl)
        have e55 := (hS 17 55 rfl (hdn 17 (by decide)) (Nat.le_of_ble_eq_true rfl)).trans (hJ.says (hdn 17 (by decide)) rfl)
        exact po_run 56 (Op.convert 22 9 (Operand.tmp 55)) 9 HWF hJ rfl hE rfl rfl rfl rfl rfl (wanted_of rfl rfl e51) (exec_str _ _ _ e55 (Bs.below f_s2 (Keep.nil hE) (Nat.le_refl _)))
      · have e51 := (hS 13 51 rfl (hdn 13 (by decide)) (Nat.le_of_ble_eq_true rfl)).trans (hJ.says (hdn 13 (by decide)) rfl)
        have e54 := (hS 16 54 rfl (hdn 16 (by decide)) (Nat.le_of_ble_eq_true rfl)).trans (hJ.says (hdn 16 (by decide)) rfl)
        have e56 := (hS 18 56 rfl (hdn 18 (by decide)) (Nat.le_of_ble_eq_true rfl)).trans (hJ.says (hdn 18 (by decide)) rfl)
        exact po_run 57 (Op.binOp BinOp.eql 9 (Operand.tmp 54) (Operand.tmp 56) 9) _ HWF hJ rfl hE rfl rfl rfl rfl rfl (wanted_of rfl rfl e51) (exec_str_yes _ _ _ _ (by rw [HCM.out]) e54 e56)
      · have e51 := (hS 13 51 rfl (hdn 13 (by decide)) (Nat.le_of_ble_eq_true rfl)).trans (hJ.says (hdn 13 (by decide)) rfl)
        have e57 := (hS 19 57 rfl (hdn 19 (by decide)) (Nat.le_of_ble_eq_true rfl)).trans (hJ.says (hdn 19 (by decide)) rfl)
        exact po_run 58 (Op.pick (Operand.tmp 51) (Operand.tmp 57) (Operand.const (Value.bool false))) _ HWF hJ rfl hE rfl rfl rfl rfl rfl rfl (by first | (simp only [execOp, mkOp, eval_const, e51, e57]; done) | (simp only [execOp, mkOp, eval_const, e51, e57]; go_simp))
      · have e58 := (hS 20 58 rfl (hdn 20 (by decide)) (Nat.le_of_ble_eq_true rfl)).trans (hJ.says (hdn 20 (by decide)) rfl)
        exact po_run 59 (Op.move (Operand.tmp 58)) _ HWF hJ rfl hE rfl rfl rfl rfl rfl rfl (by first | (simp only [execOp, mkOp, eval_const, e58]; done) | (simp only [execOp, mkOp, eval_const, e58]; go_simp))
      · have e59 := (hS 21 59 rfl (hdn 21 (by decide)) (Nat.le_of_ble_eq_true rfl)).trans (hJ.says (hdn 21 (by decide)) rfl)
        exact po_call 60 9 #[] #[] _ HWF hJ rfl hE (awake6_any _) rfl rfl rfl rfl (wanted_of rfl rfl e59) Try.func9 (by kernel_rfl) (by kernel_rfl) (by simp only [List.map_toArray, List.map_cons, List.map_nil, eval_const, eval_func] <;> rfl)
      · have e59 := (hS 21 59 rfl (hdn 21 (by decide)) (Nat.le_of_ble_eq_true rfl)).trans (hJ.says (hdn 21 (by decide)) rfl)
        have e60 := (hS 22 60 rfl (hdn 22 (by decide)) (Nat.le_of_ble_eq_true rfl)).trans (hJ.says (hdn 22 (by decide)) rfl)
        exact po_run 61 (Op.pick (Operand.tmp 59) (Operand.tmp 60) (Operand.const (Value.bool false))) _ HWF hJ rfl hE rfl rfl rfl rfl rfl rfl (by first | (simp only [execOp, mkOp, eval_const, e59, e60]; done) | (simp only [execOp, mkOp, eval_const, e59, e60]; go_simp))
      · have e61 := (hS 23 61 rfl (hdn 23 (by decide)) (Nat.le_of_ble_eq_true rfl)).trans (hJ.says (hdn 23 (by decide)) rfl)
        exact po_run 6 (Op.assign (Operand.tmp 61)) _ HWF hJ rfl hE rfl rfl rfl rfl rfl rfl (by first | (simp only [execOp, mkOp, eval_const, e61]; done) | (simp only [execOp, mkOp, eval_const, e61]; go_simp))
    · have q1 := hJ.told 1 (by decide) rfl
      have q3 := hJ.told 3 (by decide) rfl
      have q4 := hJ.told 4 (by decide) rfl
      have q5 := hJ.told 5 (by decide) rfl
      have q6 := hJ.told 6 (by decide) rfl
      have q8 := hJ.told 8 (by decide) rfl
      have q9 := hJ.told 9 (by decide) rfl
      have q10 := hJ.told 10 (by decide) rfl
      have q11 := hJ.told 11 (by decide) rfl
      have q12 := hJ.told 12 (by decide) rfl
      have q13 := hJ.told 13 (by decide) rfl
      have q14 := hJ.told 14 (by decide) rfl
      have q16 := hJ.told 16 (by decide) rfl
      have q17 := hJ.told 17 (by decide) rfl
      have q18 := hJ.told 18 (by decide) rfl
      have q19 := hJ.told 19 (by decide) rfl
      have q20 := hJ.told 20 (by decide) rfl
      have q21 := hJ.told 21 (by decide) rfl
      have q22 := hJ.told 22 (by decide) rfl
      have q23 := hJ.told 23 (by decide) rfl
      have q24 := hJ.told 24 (by decide) rfl
      show PoEnd _ (Act.put (Act.put (Act.put (Act.put (Act.put (Act.put (Act.put (Act.put (Act.put (Act.put (Act.put (Act.put (Act.put (Act.put (Act.put (Act.put (Act.put (Act.put (Act.put (Act.put (Act.put (Act.put (Act.put (Act.put (Act.put _ (some 37) (gz 0)) (some 38) (gz 1)) (some 40) (gz 2)) (some 41) (gz 3)) (some 42) (gz 4)) (some 43) (gz 5)) (some 44) (gz 6)) (some 45) (gz 7)) (some 46) (gz 8)) (some 47) (gz 9)) (some 48) (gz 10)) (some 49) (gz 11)) (some 50) (gz 12)) (some 51) (gz 13)) (some 52) (gz 14)) (some 53) (gz 15)) (some 54) (gz 16)) (some 55) (gz 17)) (some 56) (gz 18)) (some 57) (gz 19)) (some 58) (gz 20)) (some 59) (gz 21)) (some 60) (gz 22)) (some 61) (gz 23)) (some 6) (gz 24)) wa
      rw [q1, q3, q4, q5, q6, q8, q9, q10, q11, q12, q13, q14, q16, q17, q18, q19, q20, q21, q22, q23, q24]
      simp only [Act.put, List.setIfInBounds_toArray, List.set_cons_zero, List.set_cons_succ]
      refine po_end ?_
      replace f_s0 := Bs.below f_s0 (Keep.nil hE) (Nat.le_refl _)
      replace f_s1 := Bs.below f_s1 (Keep.nil hE) (Nat.le_refl _)
      replace f_s2 := Bs.below f_s2 (Keep.nil hE) (Nat.le_refl _)
      have B7 := hE.below B6 (HGS.out _ B6) rfl
      clear B6 hE hJ HWF q1 q3 q4 q5 q6 q8 q9 q10 q11 q12 q13 q14 q16 q17 q18 q19 q20 q21 q22 q23 q24
      go_wp2
      go_ret
      exact ⟨rfl, B7⟩
  · have q0 : ¬ (n0 : Int) = 32 := by omega
    clear h0 hB0 d0 e0
    go_enter Try.func6, Try.ntmps6
    go_wp2_with (go_at_call 9; refine (awake6_any _).mono ?_; rintro e w9 ⟨rfl, hb9⟩)
    go_ret
    exact ⟨rfl, hb9⟩
end Go.Proofs.Ytnoppemclfnlcaa
