/- XBases, walked. -/
import Derived.Test.YtnoppemclfnlcaaEdW
namespace Go.Proofs.Ytnoppemclfnlcaa
open Go.RowKit Go.Deep
set_option linter.unusedSimpArgs false
set_option linter.unusedVariables false

theorem numL_same {l m : List UInt8} : ∀ k, (∀ i, i < k → l.getD i 0 = m.getD i 0) → numL l k = numL m k
  | 0, _ => rfl
  | k + 1, h => by rw [numL, numL, numL_same k (fun i hi => h i (by omega)), h k (by omega)]
theorem more_getD (l m : List UInt8) (h : l.length = 32) (i : Nat) (hi : i < 32) : ([] ++ l ++ m).getD i 0 = l.getD i 0 := by
  rw [List.nil_append, List.getD_eq_getElem?_getD, List.getD_eq_getElem?_getD, List.getElem?_append_left (by omega)]
theorem ofL_more (l m : List UInt8) (h : l.length = 32) : ofL ([] ++ l ++ m) = ofL l := by
  unfold ofL
  rw [numL_same 32 (more_getD l m h)]
theorem clampN_more (l m : List UInt8) (h : l.length = 32) : clampN ([] ++ l ++ m) = clampN l := by
  unfold clampN
  rw [numL_same 32 (more_getD l m h)]
theorem ofL_turned (l : List UInt8) (h : l.length = 32) (q z : Nat) (hq : q = (l.getD 31 0).toNat) (hz : z = (q + 128) % 256) : ofL (l.set 31 (UInt8.ofNat z)) = ofL l := by
  have hz2 : z < 256 := by omega
  have e1 : numL (l.set 31 (UInt8.ofNat z)) 31 = numL l 31 := numL_same 31 fun i hi => by
    rw [List.getD_eq_getElem?_getD, List.getElem?_set_ne (by omega), List.getD_eq_getElem?_getD]
  have e2 : ((l.set 31 (UInt8.ofNat z)).getD 31 0).toNat = z := by
    rw [List.getD_eq_getElem?_getD, List.getElem?_set_self (by omega)]
    exact UInt8.toNat_ofNat_of_lt' hz2
  have key : ∀ a b t : Nat, (a + b * t) % (128 * t) = (a + b % 128 * t) % (128 * t) := fun a b t => by
    have h1 : a + b * t = a + b % 128 * t + 128 * t * (b / 128) := by
      have h2 : b * t = (128 * (b / 128) + b % 128) * t := by rw [Nat.div_add_mod]
      rw [h2, Nat.add_mul, Nat.mul_right_comm]
      omega
    rw [h1, Nat.add_mul_mod_self_left]
  have ht : top = 128 * 256 ^ 31 := by decide +kernel
  unfold ofL
  rw [show numL (l.set 31 (UInt8.ofNat z)) 32 = numL (l.set 31 (UInt8.ofNat z)) 31 + ((l.set 31 (UInt8.ofNat z)).getD 31 0).toNat * 256 ^ 31 from rfl, show numL l 32 = numL l 31 + (l.getD 31 0).toNat * 256 ^ 31 from rfl, e1, e2, ← hq, ht]
  rw [key _ z, key _ q, show z % 128 = q % 128 by omega]
theorem xor128N (x : Nat) (h : x < 256) : bits .xor .u8 (x : Int) 128 = (((x + 128) % 256 : Nat) : Int) := by
  have g : ∀ q : Fin 256, bits .xor .u8 ((q.val : Nat) : Int) 128 = (((q.val + 128) % 256 : Nat) : Int) := by decide +kernel
  exact g ⟨x, h⟩
theorem nine_set : (List.replicate 32 (0 : UInt8)).set 0 (UInt8.ofNat 9) = litB 9 32 := by decide +kernel
theorem nine_of : ofL (litB 9 32) = 9 := by decide +kernel
set_option maxHeartbeats 8000000 in
set_option maxRecDepth 100000 in
theorem law_xBases (w : World) (v0 : Value) (l0 : List UInt8) (h0 : Bs w v0 l0) (v1 : Value) (l1 : List UInt8) (h1 : Bs w v1 l1) (v2 : Value) (l2 : List UInt8) (h2 : Bs w v2 l2) : Calls Try.prog 8 #[v0, v1, v2] w fun e w' => e = .returned (.bool true) ∧ Below w.heap.size w w' := by
  obtain ⟨ad0, n0, c0, rfl, e0, y0, z0, hB0⟩ := h0.shape
  obtain ⟨ad1, n1, c1, rfl, e1, y1, z1, hB1⟩ := h1.shape
  obtain ⟨ad2, n2, c2, rfl, e2, y2, z2, hB2⟩ := h2.shape
  by_cases d0 : n0 = 32
  · by_cases d1 : n1 = 32
    · by_cases d2 : n2 ≤ 40
      · have q0 : ¬ (40 : Int) < (n2 : Int) := by omega
        have HL0 : Hid (l0.length = 32) := Lib.hid (by omega)
        have HL1 : Hid (l1.length = 32) := Lib.hid (by omega)
        have HL2 : Hid (l2.length ≤ 40) := Lib.hid (by omega)
        subst d0
        subst d1
        have HF0 := Lib.hid hB0
        have HF1 := Lib.hid hB1
        have HF2 := Lib.hid hB2
        obtain ⟨q, hq⟩ := nat_var ((l1.getD 31 0).toNat)
        have hql : q < 256 := by rw [hq]; exact UInt8.toNat_lt _
        have b1 := xor128N q hql
        obtain ⟨z, hz⟩ := nat_var ((q + 128) % 256)
        have HZL : Hid (z < 256) := Lib.hid (by omega)
        have HQL := Lib.hid (ofL_turned l1 HL1.out q z hq hz)
        rw [← hz] at b1
        have HQ : Hid (∀ h : 31 < l1.length, (l1[31]'h).toNat = q) := Lib.hid fun h => by rw [hq, List.getD_eq_getElem?_getD, List.getElem?_eq_getElem h]; rfl
        have om := made_own w 32 (by unfold maxLen; omega)
        have B0 := (Below.refl w.heap.size w).alloc (Nat.le_refl _) (.cells (madeCells #[.int .u8 0] 32) 5)
        have hmk : ∀ w : World, (Instr.makeSlice 22 (.int .i64 32) (.int .i64 32)).run Try.prog w = .ok (.slice (some ⟨w.heap.size, 0, none⟩) 32 32) (w.alloc (.cells (madeCells #[.int .u8 0] 32) 5)) :=
          fun w => run_make_row' (P := Try.prog) 22 5 (.int .u8 0) 1 Try.underlying22 Try.info5 rfl .i64 .i64 32 (by omega) (by omega) w
        have HL32 : Hid ((List.replicate 32 (0 : UInt8)).length = 32) := Lib.hid List.length_replicate
        have HM := Lib.hid fun v0 v1 w h0 h1 => mult_any v0 v1 l0 l1 w h0 h1
        obtain ⟨XL, hX⟩ : ∃ X, X = litB (ladder (ofL l1) (clampN l0)) 32 := ⟨_, rfl⟩
        rw [← hX] at HM
        have HXL : Hid (XL.length = 32) := Lib.hid (by rw [hX, litB_length])
        have HXE := Lib.hid hX
        obtain ⟨NL, hN⟩ : ∃ X, X = litB 9 32 := ⟨_, rfl⟩
        have HN9 : Hid (ofL NL = 9) := Lib.hid (by rw [hN, nine_of])
        have HNS : Hid ((List.replicate 32 (0 : UInt8)).set 0 (UInt8.ofNat 9) = NL) := Lib.hid (by rw [hN, nine_set])
        obtain ⟨QL, hQ⟩ : ∃ X, X = l1.set 31 (UInt8.ofNat z) := ⟨_, rfl⟩
        rw [← hQ] at HQL
        have HQS := Lib.hid hQ
        have HGS : Hid (∀ wq : World, Below w.heap.size w wq → w.heap.size ≤ wq.heap.size) := Lib.hid fun wq h => h.size
        clear h0 h1 h2 hB0 hB1 hB2 hq hz hql d2 e0 e1 e2 hX hN hQ
        go_enter Try.func8, Try.ntmps8
        go_wp2_with (first
          | (refine wpList_store_byte rfl (.tmp 26) (.const (.int .u8 9)) rfl 0 9 om HL32.out.symm (Nat.le_refl _) (by rw [HL32.out]; decide) rfl rfl (by decide) ?_; intro w1 o1 gs
             have B1 := B0.grown gs (HGS.out _ B0) (by intro k hk; cases hk; exact Nat.le_refl _)
             rw [HNS.out] at o1
             have f_s7 := o1.bs
             have O1 := Owns.empty w1
             have k1 := (Below.refl w1.heap.size w1).alloc (Nat.le_refl _) (.cells #[] 5)
             have F1 := (HF1.out.below B1 (Nat.le_refl _)).below k1 (Nat.le_refl _)
             clear om B0 gs o1)
          | (refine wpList_app rfl (.tmp 27) (.tmp 28) rfl w1.heap.size _ _ [] l1 O1 F1 rfl rfl (by simp [HL1.out]) (by simp) ?_; intro v2 w2 ho hgr
             obtain ⟨gq, cap, hv, hg, hgs, _, _⟩ := (show Owns w2 w1.heap.size v2 l1 from ho).open_cons (by rw [HL1.out]; decide)
             rw [HL1.out] at hv
             subst hv
             have o2 : Owns w2 w1.heap.size (.slice (some ⟨gq, 0, none⟩) 32 cap) l1 := ho
             obtain ⟨hcap⟩ : Nonempty (32 ≤ cap) := by
               obtain ⟨_, _, he, hc, _⟩ := o2.bs
               injection he with _ _ he
               subst he
               rw [HL1.out] at hc
               exact ⟨hc⟩
             have C2 := k1.grown hgr (by simp) (fun k hk => by simp [Value.ownBlock] at hk; omega)
             clear O1 F1 k1 ho hgr)
          | refine wpList_load_byte rfl (.tmp 32) rfl 31 q o2 HL1.out.symm (by rw [HL1.out]; decide) rfl (HQ.out _) ?_
          | (refine wpList_store_byte rfl (.tmp 35) (.tmp 34) rfl 31 z o2 HL1.out.symm hcap (by rw [HL1.out]; decide) rfl rfl HZL.out ?_; intro w3 o3 g3
             have C3 := C2.grown g3 C2.size (by intro k hk; cases hk; exact hg)
             have B3 := B1.trans (C3.mono (HGS.out _ B1))
             rw [← HQS.out] at o3
             have f_s8 := o3.bs
             replace f_s7 := f_s7.below C3 (Nat.le_refl _)
             have f_s0 := HF0.out.below B3 (Nat.le_refl _)
             have f_s1 := HF1.out.below B3 (Nat.le_refl _)
             have f_s2 := HF2.out.below B3 (Nat.le_refl _)
             clear o2 C2 C3 B1 g3 o3)
          | (go_at_call 12; refine (HM.out _ _ _ f_s0 f_s1).mono ?_; rintro e w5 ⟨v5, rfl, o5, k5⟩
             have f_s9 := o5.bs
             replace f_s0 := f_s0.below k5 (Nat.le_refl _)
             replace f_s1 := f_s1.below k5 (Nat.le_refl _)
             replace f_s2 := f_s2.below k5 (Nat.le_refl _)
             replace f_s7 := f_s7.below k5 (Nat.le_refl _)
             replace f_s8 := f_s8.below k5 (Nat.le_refl _)
             have B5 := B3.trans (k5.mono (HGS.out _ B3))
             clear B3 k5 o5 HM))
        have B6 := B5.drew
        replace f_s0 := Bs.drew f_s0
        replace f_s1 := Bs.drew f_s1
        replace f_s2 := Bs.drew f_s2
        replace f_s7 := Bs.drew f_s7
        replace f_s8 := Bs.drew f_s8
        replace f_s9 := Bs.drew f_s9
        clear B5
        refine wp_region_po (Keep []) (Keep.refl _) (fun _ _ _ h1 h2 => h1.trans h2) (.rd 0 (.rd 1 (.rd 2 (.rd 3 .done)))) #[true, true, true, true, false, false, false, false, false, false, false, false, false, false, false, false, false, false, false, false, false, false, false, false, false, false, false, false, false, false, false, false, false, false, false, false, false, false, false, false, false, false, false] [4, 5, 6, 7, 8, 9, 10, 11, 12, 13, 14, 15, 16, 17, 18, 19, 20, 21, 22, 23, 24, 25, 26, 27, 28, 29, 30, 31, 32, 33, 34, 35, 36, 37, 38, 39, 40, 41, 42] [some 43, some 44, some 45, some 46, some 47, some 48, some 49, some 50, some 51, some 52, some 53, some 54, some 55, some 56, some 57, some 58, some 59, some 60, some 61, some 62, some 63, some 64, some 65, some 66, some 67, some 68, some 69, some 70, some 71, some 72, some 73, some 74, some 75, some 76, some 77, some 78, some 79, some 80, some 6] [[], [0], [1], [], [], [1, 3, 4], [5], [2, 6], [7], [5, 8], [9], [9], [9, 10, 11], [9, 12], [9], [9, 14], [9, 13, 15], [9, 16], [12, 17], [18], [18], [18, 19, 20], [18], [18, 21, 22], [18], [18], [18, 23, 24, 25], [18], [18, 26, 27], [18, 23, 28], [18, 29], [18], [18, 31], [18, 30, 32], [18, 33], [29, 34], [35], [35, 36], [0, 1, 2, 3, 4, 5, 6, 7, 8, 9, 10, 11, 12, 13, 14, 15, 16, 17, 18, 19, 20, 21, 22, 23, 24, 25, 26, 27, 28, 29, 30, 31, 32, 33, 34, 35, 36, 37]] [(0, []), (1, [0]), (2, [1]), (3, [2]), (4, [3]), (5, [4, 3, 3]), (6, [5, 3]), (7, [3]), (8, [3]), (9, [7, 8, 5, 3]), (10, [9, 3]), (11, [6, 10, 3]), (12, [3, 11]), (13, [12, 9]), (14, [13]), (15, [13]), (16, [14, 15, 13, 13]), (17, [16, 13]), (18, [13]), (19, [18, 13]), (20, [17, 19, 13]), (21, [13, 20]), (22, [21, 16]), (23, [22]), (24, [22]), (25, [23, 24, 22, 22]), (26, [22]), (27, [25, 26, 25, 22]), (28, [22]), (29, [22]), (30, [28, 29, 27, 22]), (31, [22]), (32, [30, 31, 30, 22]), (33, [27, 32, 32, 22]), (34, [33, 22]), (35, [22]), (36, [35, 22]), (37, [34, 36, 22]), (38, [22, 37]), (39, [38, 33]), (40, [39, 39]), (41, [39, 40]), (42, [41, 40, 0, 1, 2, 3, 4, 5, 6, 7, 8, 9, 10, 11, 12, 13, 14, 15, 16, 17, 18, 19, 20, 21, 22, 23, 24, 25, 26, 27, 28, 29, 30, 31, 32, 33, 34, 35, 36, 37, 38, 39, 40, 41])] 15 (by kernel_rfl) (by kernel_rfl) (by decide) (by kernel_rfl) (by kernel_rfl) (by kernel_rfl) rfl (fun d _ _ _ _ h => by cases d <;> exact h) ?_
        refine lintz_pure 39 (Op.move (Operand.tmp 9)) 22 (v5) rfl rfl rfl rfl rfl (fun w0 hb => by unfold mkOp; go_simp; all_goals (with_reducible rfl)) ?_
        simp only [Act.put, List.setIfInBounds_toArray, List.set_cons_zero, List.set_cons_succ]
        refine lintz_pure 40 (Op.call { callee := Callee.builtin Builtin.len, args := #[Operand.tmp 39], argTypes := #[22] }) 3 (.int .i64 32) rfl rfl rfl rfl rfl (fun w0 hb => by have h9 := fun ρ (hx : ρ (Operand.tmp 39) = v5) => exec_blen (w := w0) ρ (.tmp 39) hx (Bs.below f_s9 (Keep.nil hb) (Nat.le_refl _)); simp only [HXL.out] at h9; exact h9 _ rfl) ?_
        simp only [Act.put, List.setIfInBounds_toArray, List.set_cons_zero, List.set_cons_succ]
        refine lintz_pure 41 (Op.binOp BinOp.eql 3 (Operand.tmp 40) (Operand.const (Value.int IntKind.i64 32)) 3) 4 (.bool true) rfl rfl rfl rfl rfl (fun w0 hb => by unfold mkOp; go_simp) ?_
        simp only [Act.put, List.setIfInBounds_toArray, List.set_cons_zero, List.set_cons_succ]
        refine lintz_pure 42 (Op.move (Operand.tmp 41)) 4 (.bool true) rfl rfl rfl rfl rfl (fun w0 hb => by unfold mkOp; go_simp; all_goals (with_reducible rfl)) ?_
        simp only [Act.put, List.setIfInBounds_toArray, List.set_cons_zero, List.set_cons_succ]
        refine lintz_leaf ?_
        have HWF : poWf [.val (.slice ad0 32 c0), .own (litB (ladder 9 (clampN (l0))) 32) 39, .val (.string ⟨(litB (ladder 9 (clampN (l0))) 32).toArray⟩), .val (.slice ad0 32 c0), .val (.slice (some ⟨w.heap.size, 0, none⟩) 32 32), .own (litB (ladder (ofL (NL)) (clampN (l0))) 32) 39, .val (.string ⟨(litB (ladder (ofL (NL)) (clampN (l0))) 32).toArray⟩), .val (.bool true), .val (.bool true), .val (.bool true), .val (.slice ad0 32 c0), .val (.slice (some ⟨gq, 0, none⟩) 32 cap), .own (litB (ladder (ofL (QL)) (clampN (l0))) 32) 39, .val (.string ⟨(litB (ladder (ofL (QL)) (clampN (l0))) 32).toArray⟩), .val (v5), .val (.string ⟨(XL).toArray⟩), .val (.bool true), .val (.bool true), .val (.bool true), .own ([]) 21, .val (.slice ad0 32 c0), .own ([] ++ l0) 23, .val (.slice ad2 n2 c2), .own ([] ++ l0 ++ l2) 39, .own ([]) 26, .val (.slice ad1 32 c1), .own ([] ++ l1) 28, .val (.slice ad2 n2 c2), .own ([] ++ l1 ++ l2) 39, .own (litB (ladder (ofL ([] ++ l1 ++ l2)) (clampN ([] ++ l0 ++ l2))) 32) 39, .val (.string ⟨(litB (ladder (ofL ([] ++ l1 ++ l2)) (clampN ([] ++ l0 ++ l2))) 32).toArray⟩), .val (v5), .val (.string ⟨(XL).toArray⟩), .val (.bool true), .val (.bool true), .val (.bool true), .val (.bool true), .val (.bool true), .val (.bool true)] [] = true := by kernel_rfl
        refine ⟨JG [.val (.slice ad0 32 c0), .own (litB (ladder 9 (clampN (l0))) 32) 39, .val (.string ⟨(litB (ladder 9 (clampN (l0))) 32).toArray⟩), .val (.slice ad0 32 c0), .val (.slice (some ⟨w.heap.size, 0, none⟩) 32 32), .own (litB (ladder (ofL (NL)) (clampN (l0))) 32) 39, .val (.string ⟨(litB (ladder (ofL (NL)) (clampN (l0))) 32).toArray⟩), .val (.bool true), .val (.bool true), .val (.bool true), .val (.slice ad0 32 c0), .val (.slice (some ⟨gq, 0, none⟩) 32 cap), .own (litB (ladder (ofL (QL)) (clampN (l0))) 32) 39, .val (.string ⟨(litB (ladder (ofL (QL)) (clampN (l0))) 32).toArray⟩), .val (v5), .val (.string ⟨(XL).toArray⟩), .val (.bool true), .val (.bool true), .val (.bool true), .own ([]) 21, .val (.slice ad0 32 c0), .own ([] ++ l0) 23, .val (.slice ad2 n2 c2), .own ([] ++ l0 ++ l2) 39, .own ([]) 26, .val (.slice ad1 32 c1), .own ([] ++ l1) 28, .val (.slice ad2 n2 c2), .own ([] ++ l1 ++ l2) 39, .own (litB (ladder (ofL ([] ++ l1 ++ l2)) (clampN ([] ++ l0 ++ l2))) 32) 39, .val (.string ⟨(litB (ladder (ofL ([] ++ l1 ++ l2)) (clampN ([] ++ l0 ++ l2))) 32).toArray⟩), .val (v5), .val (.string ⟨(XL).toArray⟩), .val (.bool true), .val (.bool true), .val (.bool true), .val (.bool true), .val (.bool true), .val (.bool true)] [] _, JG.start (Nat.le_refl _) (fun i hi => absurd hi (Nat.not_lt_zero _)), fun m gz wa p az hp hm hmp hcl hdn hE hJ hS hO => ?_, fun gz wa hE hJ => ?_⟩
        · rcases (show p = 0 ∨ p = 1 ∨ p = 2 ∨ p = 3 ∨ p = 4 ∨ p = 5 ∨ p = 6 ∨ p = 7 ∨ p = 8 ∨ p = 9 ∨ p = 10 ∨ p = 11 ∨ p = 12 ∨ p = 13 ∨ p = 14 ∨ p = 15 ∨ p = 16 ∨ p = 17 ∨ p = 18 ∨ p = 19 ∨ p = 20 ∨ p = 21 ∨ p = 22 ∨ p = 23 ∨ p = 24 ∨ p = 25 ∨ p = 26 ∨ p = 27 ∨ p = 28 ∨ p = 29 ∨ p = 30 ∨ p = 31 ∨ p = 32 ∨ p = 33 ∨ p = 34 ∨ p = 35 ∨ p = 36 ∨ p = 37 ∨ p = 38 by have h9 : p < 39 := hp; omega) with rfl | rfl | rfl | rfl | rfl | rfl | rfl | rfl | rfl | rfl | rfl | rfl | rfl | rfl | rfl | rfl | rfl | rfl | rfl | rfl | rfl | rfl | rfl | rfl | rfl | rfl | rfl | rfl | rfl | rfl | rfl | rfl | rfl | rfl | rfl | rfl | rfl | rfl | rfl
          · have e42 : az.eval (.tmp 42) = .bool true := hO 42 rfl
            have e0 : az.eval (.tmp 0) = .slice ad0 32 c0 := hO 0 rfl
            exact po_run 43 (Op.move (Operand.tmp 0)) _ HWF hJ rfl hE rfl rfl rfl rfl rfl (wanted_of rfl rfl e42) (by first | (simp only [execOp, mkOp, eval_const, e0]; done) | (simp only [execOp, mkOp, eval_const, e0]; go_simp))
          · have e42 : az.eval (.tmp 42) = .bool true := hO 42 rfl
            have e43 := (hS 0 43 rfl (hdn 0 (by decide)) (Nat.le_of_ble_eq_true rfl)).trans (hJ.says (hdn 0 (by decide)) rfl)
            exact po_owns 44 14 #[Operand.tmp 43] #[22] _ HWF hJ rfl hE (base_any _ _ _ (Bs.below f_s0 (Keep.nil hE) (Nat.le_refl _))) rfl rfl rfl rfl (wanted_of rfl rfl e42) Try.func14 (by kernel_rfl) (by kernel_rfl) (by simp only [List.map_toArray, List.map_cons, List.map_nil, eval_const, eval_func, e43] <;> rfl)
          · have e42 : az.eval (.tmp 42) = .bool true := hO 42 rfl
            have e44 := hS 1 44 rfl (hdn 1 (by decide)) (Nat.le_of_ble_eq_true rfl)
            exact po_run 45 (Op.convert 22 9 (Operand.tmp 44)) 9 HWF hJ rfl hE rfl rfl rfl rfl rfl (wanted_of rfl rfl e42) (exec_str _ _ _ e44 (hJ.own (hdn 1 (by decide)) rfl (po_never hm (Nat.le_refl _))).bs)
          · have e42 : az.eval (.tmp 42) = .bool true := hO 42 rfl
            have e0 : az.eval (.tmp 0) = .slice ad0 32 c0 := hO 0 rfl
            exact po_run 46 (Op.move (Operand.tmp 0)) _ HWF hJ rfl hE rfl rfl rfl rfl rfl (wanted_of rfl rfl e42) (by first | (simp only [execOp, mkOp, eval_const, e0]; done) | (simp only [execOp, mkOp, eval_const, e0]; go_simp))
          · have e42 : az.eval (.tmp 42) = .bool true := hO 42 rfl
            have e7 : az.eval (.tmp 7) = .slice (some ⟨w.heap.size, 0, none⟩) 32 32 := hO 7 rfl
            exact po_run 47 (Op.move (Operand.tmp 7)) _ HWF hJ rfl hE rfl rfl rfl rfl rfl (wanted_of rfl rfl e42) (by first | (simp only [execOp, mkOp, eval_const, e7]; done) | (simp only [execOp, mkOp, eval_const, e7]; go_simp))
          · have e42 : az.eval (.tmp 42) = .bool true := hO 42 rfl
            have e46 := (hS 3 46 rfl (hdn 3 (by decide)) (Nat.le_of_ble_eq_true rfl)).trans (hJ.says (hdn 3 (by decide)) rfl)
            have e47 := (hS 4 47 rfl (hdn 4 (by decide)) (Nat.le_of_ble_eq_true rfl)).trans (hJ.says (hdn 4 (by decide)) rfl)
            exact po_owns 48 12 #[Operand.tmp 46, Operand.tmp 47] #[22, 22] _ HWF hJ rfl hE (mult_any _ _ _ _ _ (Bs.below f_s0 (Keep.nil hE) (Nat.le_refl _)) (Bs.below f_s7 (Keep.nil hE) (Nat.le_refl _))) rfl rfl rfl rfl (wanted_of rfl rfl e42) Try.func12 (by kernel_rfl) (by kernel_rfl) (by simp only [List.map_toArray, List.map_cons, List.map_nil, eval_const, eval_func, e46, e47] <;> rfl)
          · have e42 : az.eval (.tmp 42) = .bool true := hO 42 rfl
            have e48 := hS 5 48 rfl (hdn 5 (by decide)) (Nat.le_of_ble_eq_true rfl)
            exact po_run 49 (Op.convert 22 9 (Operand.tmp 48)) 9 HWF hJ rfl hE rfl rfl rfl rfl rfl (wanted_of rfl rfl e42) (exec_str _ _ _ e48 (hJ.own (hdn 5 (by decide)) rfl (po_never hm (Nat.le_refl _))).bs)
          · have e42 : az.eval (.tmp 42) = .bool true := hO 42 rfl
            have e45 := (hS 2 45 rfl (hdn 2 (by decide)) (Nat.le_of_ble_eq_true rfl)).trans (hJ.says (hdn 2 (by decide)) rfl)
            have e49 := (hS 6 49 rfl (hdn 6 (by decide)) (Nat.le_of_ble_eq_true rfl)).trans (hJ.says (hdn 6 (by decide)) rfl)
            exact po_run 50 (Op.binOp BinOp.eql 9 (Operand.tmp 45) (Operand.tmp 49) 9) _ HWF hJ rfl hE rfl rfl rfl rfl rfl (wanted_of rfl rfl e42) (exec_str_yes _ _ _ _ (by rw [HN9.out]) e45 e49)
          · have e42 : az.eval (.tmp 42) = .bool true := hO 42 rfl
            have e50 := (hS 7 50 rfl (hdn 7 (by decide)) (Nat.le_of_ble_eq_true rfl)).trans (hJ.says (hdn 7 (by decide)) rfl)
            exact po_run 51 (Op.pick (Operand.tmp 42) (Operand.tmp 50) (Operand.const (Value.bool false))) _ HWF hJ rfl hE rfl rfl rfl rfl rfl rfl (by first | (simp only [execOp, mkOp, eval_const, e42, e50]; done) | (simp only [execOp, mkOp, eval_const, e42, e50]; go_simp))
          · have e51 := (hS 8 51 rfl (hdn 8 (by decide)) (Nat.le_of_ble_eq_true rfl)).trans (hJ.says (hdn 8 (by decide)) rfl)
            exact po_run 52 (Op.move (Operand.tmp 51)) _ HWF hJ rfl hE rfl rfl rfl rfl rfl rfl (by first | (simp only [execOp, mkOp, eval_const, e51]; done) | (simp only [execOp, mkOp, eval_const, e51]; go_simp))
          · have e52 := (hS 9 52 rfl (hdn 9 (by decide)) (Nat.le_of_ble_eq_true rfl)).trans (hJ.says (hdn 9 (by decide)) rfl)
            have e0 : az.eval (.tmp 0) = .slice ad0 32 c0 := hO 0 rfl
            exact po_run 53 (Op.move (Operand.tmp 0)) _ HWF hJ rfl hE rfl rfl rfl rfl rfl (wanted_of rfl rfl e52) (by first | (simp only [execOp, mkOp, eval_const, e0]; done) | (simp only [execOp, mkOp, eval_const, e0]; go_simp))
          · have e52 := (hS 9 52 rfl (hdn 9 (by decide)) (Nat.le_of_ble_eq_true rfl)).trans (hJ.says (hdn 9 (by decide)) rfl)
            have e8 : az.eval (.tmp 8) = .slice (some ⟨gq, 0, none⟩) 32 cap := hO 8 rfl
            exact po_run 54 (Op.move (Operand.tmp 8)) _ HWF hJ rfl hE rfl rfl rfl rfl rfl (wanted_of rfl rfl e52) (by first | (simp only [execOp, mkOp, eval_const, e8]; done) | (simp only [execOp, mkOp, eval_const, e8]; go_simp))
          · have e52 := (hS 9 52 rfl (hdn 9 (by decide)) (Nat.le_of_ble_eq_true rfl)).trans (hJ.says (hdn 9 (by decide)) rfl)
            have e53 := (hS 10 53 rfl (hdn 10 (by decide)) (Nat.le_of_ble_eq_true rfl)).trans (hJ.says (hdn 10 (by decide)) rfl)
            have e54 := (hS 11 54 rfl (hdn 11 (by decide)) (Nat.le_of_ble_eq_true rfl)).trans (hJ.says (hdn 11 (by decide)) rfl)
            exact po_owns 55 12 #[Operand.tmp 53, Operand.tmp 54] #[22, 22] _ HWF hJ rfl hE (mult_any _ _ _ _ _ (Bs.below f_s0 (Keep.nil hE) (Nat.le_refl _)) (Bs.below f_s8 (Keep.nil hE) (Nat.le_refl _))) rfl rfl rfl rfl (wanted_of rfl rfl e52) Try.func12 (by kernel_rfl) (by kernel_rfl) (by simp only [List.map_toArray, List.map_cons, List.map_nil, eval_const, eval_func, e53, e54] <;> rfl)
          · have e52 := (hS 9 52 rfl (hdn 9 (by decide)) (Nat.le_of_ble_eq_true rfl)).trans (hJ.says (hdn 9 (by decide)) rfl)
            have e55 := hS 12 55 rfl (hdn 12 (by decide)) (Nat.le_of_ble_eq_true rfl)
            exact po_run 56 (Op.convert 22 9 (Operand.tmp 55)) 9 HWF hJ rfl hE rfl rfl rfl rfl rfl (wanted_of rfl rfl e52) (exec_str _ _ _ e55 (hJ.own (hdn 12 (by decide)) rfl (po_never hm (Nat.le_refl _))).bs)
          · have e52 := (hS 9 52 rfl (hdn 9 (by decide)) (Nat.le_of_ble_eq_true rfl)).trans (hJ.says (hdn 9 (by decide)) rfl)
            have e9 : az.eval (.tmp 9) = v5 := hO 9 rfl
            exact po_run 57 (Op.move (Operand.tmp 9)) _ HWF hJ rfl hE rfl rfl rfl rfl rfl (wanted_of rfl rfl e52) (by first | (simp only [execOp, mkOp, eval_const, e9]; done) | (simp only [execOp, mkOp, eval_const, e9]; go_simp))
          · have e52 := (hS 9 52 rfl (hdn 9 (by decide)) (Nat.le_of_ble_eq_true rfl)).trans (hJ.says (hdn 9 (by decide)) rfl)
            have e57 := (hS 14 57 rfl (hdn 14 (by decide)) (Nat.le_of_ble_eq_true rfl)).trans (hJ.says (hdn 14 (by decide)) rfl)
            exact po_run 58 (Op.convert 22 9 (Operand.tmp 57)) 9 HWF hJ rfl hE rfl rfl rfl rfl rfl (wanted_of rfl rfl e52) (exec_str _ _ _ e57 (Bs.below f_s9 (Keep.nil hE) (Nat.le_refl _)))
          · have e52 := (hS 9 52 rfl (hdn 9 (by decide)) (Nat.le_of_ble_eq_true rfl)).trans (hJ.says (hdn 9 (by decide)) rfl)
            have e56 := (hS 13 56 rfl (hdn 13 (by decide)) (Nat.le_of_ble_eq_true rfl)).trans (hJ.says (hdn 13 (by decide)) rfl)
            have e58 := (hS 15 58 rfl (hdn 15 (by decide)) (Nat.le_of_ble_eq_true rfl)).trans (hJ.says (hdn 15 (by decide)) rfl)
            exact po_run 59 (Op.binOp BinOp.eql 9 (Operand.tmp 56) (Operand.tmp 58) 9) _ HWF hJ rfl hE rfl rfl rfl rfl rfl (wanted_of rfl rfl e52) (exec_str_yes _ _ _ _ (by rw [HQL.out, HXE.out]) e56 e58)
          · have e52 := (hS 9 52 rfl (hdn 9 (by decide)) (Nat.le_of_ble_eq_true rfl)).trans (hJ.says (hdn 9 (by decide)) rfl)
            have e59 := (hS 16 59 rfl (hdn 16 (by decide)) (Nat.le_of_ble_eq_true rfl)).trans (hJ.says (hdn 16 (by decide)) rfl)
            exact po_run 60 (Op.pick (Operand.tmp 52) (Operand.tmp 59) (Operand.const (Value.bool false))) _ HWF hJ rfl hE rfl rfl rfl rfl rfl rfl (by first | (simp only [execOp, mkOp, eval_const, e52, e59]; done) | (simp only [execOp, mkOp, eval_const, e52, e59]; go_simp))
          · have e60 := (hS 17 60 rfl (hdn 17 (by decide)) (Nat.le_of_ble_eq_true rfl)).trans (hJ.says (hdn 17 (by decide)) rfl)
            exact po_run 61 (Op.move (Operand.tmp 60)) _ HWF hJ rfl hE rfl rfl rfl rfl rfl rfl (by first | (simp only [execOp, mkOp, eval_const, e60]; done) | (simp only [execOp, mkOp, eval_const, e60]; go_simp))
          · have e61 := (hS 18 61 rfl (hdn 18 (by decide)) (Nat.le_of_ble_eq_true rfl)).trans (hJ.says (hdn 18 (by decide)) rfl)
            exact po_made 62 (Op.buildSlice 22 0 #[]) 22 HWF hJ rfl hE rfl rfl rfl rfl rfl (wanted_of rfl rfl e61) (by unfold mkOp; go_simp) ((Below.refl _ _).alloc (Nat.le_refl _) _) (Owns.empty _)
          · have e61 := (hS 18 61 rfl (hdn 18 (by decide)) (Nat.le_of_ble_eq_true rfl)).trans (hJ.says (hdn 18 (by decide)) rfl)
            have e0 : az.eval (.tmp 0) = .slice ad0 32 c0 := hO 0 rfl
            exact po_run 63 (Op.move (Operand.tmp 0)) _ HWF hJ rfl hE rfl rfl rfl rfl rfl (wanted_of rfl rfl e61) (by first | (simp only [execOp, mkOp, eval_const, e0]; done) | (simp only [execOp, mkOp, eval_const, e0]; go_simp))
          · have e61 := (hS 18 61 rfl (hdn 18 (by decide)) (Nat.le_of_ble_eq_true rfl)).trans (hJ.says (hdn 18 (by decide)) rfl)
            have e62 := hS 19 62 rfl (hdn 19 (by decide)) (Nat.le_of_ble_eq_true rfl)
            have e63 := (hS 20 63 rfl (hdn 20 (by decide)) (Nat.le_of_ble_eq_true rfl)).trans (hJ.says (hdn 20 (by decide)) rfl)
            exact po_app 64 19 (.tmp 62) (.tmp 63) HWF (by rw [hm]; exact hp) hmp hJ rfl rfl (hdn 19 (by decide)) (fun i hi => absurd hi (Nat.not_lt_zero _)) hE (Bs.below f_s0 (Keep.nil hE) (Nat.le_refl _)) (by simp only [List.length_append, List.length_nil]; have h91 := HL0.out; have h92 := HL1.out; have h93 := HL2.out; omega) rfl rfl rfl rfl (wanted_of rfl rfl e61) (e62) (e63)
          · have e61 := (hS 18 61 rfl (hdn 18 (by decide)) (Nat.le_of_ble_eq_true rfl)).trans (hJ.says (hdn 18 (by decide)) rfl)
            have e2 : az.eval (.tmp 2) = .slice ad2 n2 c2 := hO 2 rfl
            exact po_run 65 (Op.move (Operand.tmp 2)) _ HWF hJ rfl hE rfl rfl rfl rfl rfl (wanted_of rfl rfl e61) (by first | (simp only [execOp, mkOp, eval_const, e2]; done) | (simp only [execOp, mkOp, eval_const, e2]; go_simp))
          · have e61 := (hS 18 61 rfl (hdn 18 (by decide)) (Nat.le_of_ble_eq_true rfl)).trans (hJ.says (hdn 18 (by decide)) rfl)
            have e64 := hS 21 64 rfl (hdn 21 (by decide)) (Nat.le_of_ble_eq_true rfl)
            have e65 := (hS 22 65 rfl (hdn 22 (by decide)) (Nat.le_of_ble_eq_true rfl)).trans (hJ.says (hdn 22 (by decide)) rfl)
            exact po_app 66 21 (.tmp 64) (.tmp 65) HWF (by rw [hm]; exact hp) hmp hJ rfl rfl (hdn 21 (by decide)) (fun i hi => absurd hi (Nat.not_lt_zero _)) hE (Bs.below f_s2 (Keep.nil hE) (Nat.le_refl _)) (by simp only [List.length_append, List.length_nil]; have h91 := HL0.out; have h92 := HL1.out; have h93 := HL2.out; omega) rfl rfl rfl rfl (wanted_of rfl rfl e61) (e64) (e65)
          · have e61 := (hS 18 61 rfl (hdn 18 (by decide)) (Nat.le_of_ble_eq_true rfl)).trans (hJ.says (hdn 18 (by decide)) rfl)
            exact po_made 67 (Op.buildSlice 22 0 #[]) 22 HWF hJ rfl hE rfl rfl rfl rfl rfl (wanted_of rfl rfl e61) (by unfold mkOp; go_simp) ((Below.refl _ _).alloc (Nat.le_refl _) _) (Owns.empty _)
          · have e61 := (hS 18 61 rfl (hdn 18 (by decide)) (Nat.le_of_ble_eq_true rfl)).trans (hJ.says (hdn 18 (by decide)) rfl)
            have e1 : az.eval (.tmp 1) = .slice ad1 32 c1 := hO 1 rfl
            exact po_run 68 (Op.move (Operand.tmp 1)) _ HWF hJ rfl hE rfl rfl rfl rfl rfl (wanted_of rfl rfl e61) (by first | (simp only [execOp, mkOp, eval_const, e1]; done) | (simp only [execOp, mkOp, eval_const, e1]; go_simp))
          · have e61 := (hS 18 61 rfl (hdn 18 (by decide)) (Nat.le_of_ble_eq_true rfl)).trans (hJ.says (hdn 18 (by decide)) rfl)
            have e67 := hS 24 67 rfl (hdn 24 (by decide)) (Nat.le_of_ble_eq_true rfl)
            have e68 := (hS 25 68 rfl (hdn 25 (by decide)) (Nat.le_of_ble_eq_true rfl)).trans (hJ.says (hdn 25 (by decide)) rfl)
            exact po_app 69 24 (.tmp 67) (.tmp 68) HWF (by rw [hm]; exact hp) hmp hJ rfl rfl (hdn 24 (by decide)) (fun i hi => absurd hi (Nat.not_lt_zero _)) hE (Bs.below f_s1 (Keep.nil hE) (Nat.le_refl _)) (by simp only [List.length_append, List.length_nil]; have h91 := HL0.out; have h92 := HL1.out; have h93 := HL2.out; omega) rfl rfl rfl rfl (wanted_of rfl rfl e61) (e67) (e68)
          · have e61 := (hS 18 61 rfl (hdn 18 (by decide)) (Nat.le_of_ble_eq_true rfl)).trans (hJ.says (hdn 18 (by decide)) rfl)
            have e2 : az.eval (.tmp 2) = .slice ad2 n2 c2 := hO 2 rfl
            exact po_run 70 (Op.move (Operand.tmp 2)) _ HWF hJ rfl hE rfl rfl rfl rfl rfl (wanted_of rfl rfl e61) (by first | (simp only [execOp, mkOp, eval_const, e2]; done) | (simp only [execOp, mkOp, eval_const, e2]; go_simp))
          · have e61 := (hS 18 61 rfl (hdn 18 (by decide)) (Nat.le_of_ble_eq_true rfl)).trans (hJ.says (hdn 18 (by decide)) rfl)
            have e69 := hS 26 69 rfl (hdn 26 (by decide)) (Nat.le_of_ble_eq_true rfl)
            have e70 := (hS 27 70 rfl (hdn 27 (by decide)) (Nat.le_of_ble_eq_true rfl)).trans (hJ.says (hdn 27 (by decide)) rfl)
            exact po_app 71 26 (.tmp 69) (.tmp 70) HWF (by rw [hm]; exact hp) hmp hJ rfl rfl (hdn 26 (by decide)) (fun i hi => absurd hi (Nat.not_lt_zero _)) hE (Bs.below f_s2 (Keep.nil hE) (Nat.le_refl _)) (by simp only [List.length_append, List.length_nil]; have h91 := HL0.out; have h92 := HL1.out; have h93 := HL2.out; omega) rfl rfl rfl rfl (wanted_of rfl rfl e61) (e69) (e70)
          · have e61 := (hS 18 61 rfl (hdn 18 (by decide)) (Nat.le_of_ble_eq_true rfl)).trans (hJ.says (hdn 18 (by decide)) rfl)
            have e66 := hS 23 66 rfl (hdn 23 (by decide)) (Nat.le_of_ble_eq_true rfl)
            have e71 := hS 28 71 rfl (hdn 28 (by decide)) (Nat.le_of_ble_eq_true rfl)
            exact po_owns 72 12 #[Operand.tmp 66, Operand.tmp 71] #[22, 22] _ HWF hJ rfl hE (mult_any _ _ _ _ _ (hJ.own (hdn 23 (by decide)) rfl (po_never hm (Nat.le_refl _))).bs (hJ.own (hdn 28 (by decide)) rfl (po_never hm (Nat.le_refl _))).bs) rfl rfl rfl rfl (wanted_of rfl rfl e61) Try.func12 (by kernel_rfl) (by kernel_rfl) (by simp only [List.map_toArray, List.map_cons, List.map_nil, eval_const, eval_func, e66, e71] <;> rfl)
          · have e61 := (hS 18 61 rfl (hdn 18 (by decide)) (Nat.le_of_ble_eq_true rfl)).trans (hJ.says (hdn 18 (by decide)) rfl)
            have e72 := hS 29 72 rfl (hdn 29 (by decide)) (Nat.le_of_ble_eq_true rfl)
            exact po_run 73 (Op.convert 22 9 (Operand.tmp 72)) 9 HWF hJ rfl hE rfl rfl rfl rfl rfl (wanted_of rfl rfl e61) (exec_str _ _ _ e72 (hJ.own (hdn 29 (by decide)) rfl (po_never hm (Nat.le_refl _))).bs)
          · have e61 := (hS 18 61 rfl (hdn 18 (by decide)) (Nat.le_of_ble_eq_true rfl)).trans (hJ.says (hdn 18 (by decide)) rfl)
            have e9 : az.eval (.tmp 9) = v5 := hO 9 rfl
            exact po_run 74 (Op.move (Operand.tmp 9)) _ HWF hJ rfl hE rfl rfl rfl rfl rfl (wanted_of rfl rfl e61) (by first | (simp only [execOp, mkOp, eval_const, e9]; done) | (simp only [execOp, mkOp, eval_const, e9]; go_simp))
          · have e61 := (hS 18 61 rfl (hdn 18 (by decide)) (Nat.le_of_ble_eq_true rfl)).trans (hJ.says (hdn 18 (by decide)) rfl)
            have e74 := (hS 31 74 rfl (hdn 31 (by decide)) (Nat.le_of_ble_eq_true rfl)).trans (hJ.says (hdn 31 (by decide)) rfl)
            exact po_run 75 (Op.convert 22 9 (Operand.tmp 74)) 9 HWF hJ rfl hE rfl rfl rfl rfl rfl (wanted_of rfl rfl e61) (exec_str _ _ _ e74 (Bs.below f_s9 (Keep.nil hE) (Nat.le_refl _)))
          · have e61 := (hS 18 61 rfl (hdn 18 (by decide)) (Nat.le_of_ble_eq_true rfl)).trans (hJ.says (hdn 18 (by decide)) rfl)
            have e73 := (hS 30 73 rfl (hdn 30 (by decide)) (Nat.le_of_ble_eq_true rfl)).trans (hJ.says (hdn 30 (by decide)) rfl)
            have e75 := (hS 32 75 rfl (hdn 32 (by decide)) (Nat.le_of_ble_eq_true rfl)).trans (hJ.says (hdn 32 (by decide)) rfl)
            exact po_run 76 (Op.binOp BinOp.eql 9 (Operand.tmp 73) (Operand.tmp 75) 9) _ HWF hJ rfl hE rfl rfl rfl rfl rfl (wanted_of rfl rfl e61) (exec_str_yes _ _ _ _ (by rw [ofL_more _ _ HL1.out, clampN_more _ _ HL0.out, HXE.out]) e73 e75)
          · have e61 := (hS 18 61 rfl (hdn 18 (by decide)) (Nat.le_of_ble_eq_true rfl)).trans (hJ.says (hdn 18 (by decide)) rfl)
            have e76 := (hS 33 76 rfl (hdn 33 (by decide)) (Nat.le_of_ble_eq_true rfl)).trans (hJ.says (hdn 33 (by decide)) rfl)
            exact po_run 77 (Op.pick (Operand.tmp 61) (Operand.tmp 76) (Operand.const (Value.bool false))) _ HWF hJ rfl hE rfl rfl rfl rfl rfl rfl (by first | (simp only [execOp, mkOp, eval_const, e61, e76]; done) | (simp only [execOp, mkOp, eval_const, e61, e76]; go_simp))
          · have e77 := (hS 34 77 rfl (hdn 34 (by decide)) (Nat.le_of_ble_eq_true rfl)).trans (hJ.says (hdn 34 (by decide)) rfl)
            exact po_run 78 (Op.move (Operand.tmp 77)) _ HWF hJ rfl hE rfl rfl rfl rfl rfl rfl (by first | (simp only [execOp, mkOp, eval_const, e77]; done) | (simp only [execOp, mkOp, eval_const, e77]; go_simp))
          · have e78 := (hS 35 78 rfl (hdn 35 (by decide)) (Nat.le_of_ble_eq_true rfl)).trans (hJ.says (hdn 35 (by decide)) rfl)
            exact po_call 79 9 #[] #[] _ HWF hJ rfl hE (awake6_any _) rfl rfl rfl rfl (wanted_of rfl rfl e78) Try.func9 (by kernel_rfl) (by kernel_rfl) (by simp only [List.map_toArray, List.map_cons, List.map_nil, eval_const, eval_func] <;> rfl)
          · have e78 := (hS 35 78 rfl (hdn 35 (by decide)) (Nat.le_of_ble_eq_true rfl)).trans (hJ.says (hdn 35 (by decide)) rfl)
            have e79 := (hS 36 79 rfl (hdn 36 (by decide)) (Nat.le_of_ble_eq_true rfl)).trans (hJ.says (hdn 36 (by decide)) rfl)
            exact po_run 80 (Op.pick (Operand.tmp 78) (Operand.tmp 79) (Operand.const (Value.bool false))) _ HWF hJ rfl hE rfl rfl rfl rfl rfl rfl (by first | (simp only [execOp, mkOp, eval_const, e78, e79]; done) | (simp only [execOp, mkOp, eval_const, e78, e79]; go_simp))
          · have e80 := (hS 37 80 rfl (hdn 37 (by decide)) (Nat.le_of_ble_eq_true rfl)).trans (hJ.says (hdn 37 (by decide)) rfl)
            exact po_run 6 (Op.assign (Operand.tmp 80)) _ HWF hJ rfl hE rfl rfl rfl rfl rfl rfl (by first | (simp only [execOp, mkOp, eval_const, e80]; done) | (simp only [execOp, mkOp, eval_const, e80]; go_simp))
        · have q0 := hJ.told 0 (by decide) rfl
          have q2 := hJ.told 2 (by decide) rfl
          have q3 := hJ.told 3 (by decide) rfl
          have q4 := hJ.told 4 (by decide) rfl
          have q6 := hJ.told 6 (by decide) rfl
          have q7 := hJ.told 7 (by decide) rfl
          have q8 := hJ.told 8 (by decide) rfl
          have q9 := hJ.told 9 (by decide) rfl
          have q10 := hJ.told 10 (by decide) rfl
          have q11 := hJ.told 11 (by decide) rfl
          have q13 := hJ.told 13 (by decide) rfl
          have q14 := hJ.told 14 (by decide) rfl
          have q15 := hJ.told 15 (by decide) rfl
          have q16 := hJ.told 16 (by decide) rfl
          have q17 := hJ.told 17 (by decide) rfl
          have q18 := hJ.told 18 (by decide) rfl
          have q20 := hJ.told 20 (by decide) rfl
          have q22 := hJ.told 22 (by decide) rfl
          have q25 := hJ.told 25 (by decide) rfl
          have q27 := hJ.told 27 (by decide) rfl
          have q30 := hJ.told 30 (by decide) rfl
          have q31 := hJ.told 31 (by decide) rfl
          have q32 := hJ.told 32 (by decide) rfl
          have q33 := hJ.told 33 (by decide) rfl
          have q34 := hJ.told 34 (by decide) rfl
          have q35 := hJ.told 35 (by decide) rfl
          have q36 := hJ.told 36 (by decide) rfl
          have q37 := hJ.told 37 (by decide) rfl
          have q38 := hJ.told 38 (by decide) rfl
          show PoEnd _ (Act.put (Act.put (Act.put (Act.put (Act.put (Act.put (Act.put (Act.put (Act.put (Act.put (Act.put (Act.put (Act.put (Act.put (Act.put (Act.put (Act.put (Act.put (Act.put (Act.put (Act.put (Act.put (Act.put (Act.put (Act.put (Act.put (Act.put (Act.put (Act.put (Act.put (Act.put (Act.put (Act.put (Act.put (Act.put (Act.put (Act.put (Act.put (Act.put _ (some 43) (gz 0)) (some 44) (gz 1)) (some 45) (gz 2)) (some 46) (gz 3)) (some 47) (gz 4)) (some 48) (gz 5)) (some 49) (gz 6)) (some 50) (gz 7)) (some 51) (gz 8)) (some 52) (gz 9)) (some 53) (gz 10)) (some 54) (gz 11)) (some 55) (gz 12)) (some 56) (gz 13)) (some 57) (gz 14)) (some 58) (gz 15)) (some 59) (gz 16)) (some 60) (gz 17)) (some 61) (gz 18)) (some 62) (gz 19)) (some 63) (gz 20)) (some 64) (gz 21)) (some 65) (gz 22)) (some 66) (gz 23)) (some 67) (gz 24)) (some 68) (gz 25)) (some 69) (gz 26)) (some 70) (gz 27)) (some 71) (gz 28)) (some 72) (gz 29)) (some 73) (gz 30)) (some 74) (gz 31)) (some 75) (gz 32)) (some 76) (gz 33)) (some 77) (gz 34)) (some 78) (gz 35)) (some 79) (gz 36)) (some 80) (gz 37)) (some 6) (gz 38)) wa
          rw [q0, q2, q3, q4, q6, q7, q8, q9, q10, q11, q13, q14, q15, q16, q17, q18, q20, q22, q25, q27, q30, q31, q32, q33, q34, q35, q36, q37, q38]
          simp only [Act.put, List.setIfInBounds_toArray, List.set_cons_zero, List.set_cons_succ]
          refine po_end ?_
          replace f_s0 := Bs.below f_s0 (Keep.nil hE) (Nat.le_refl _)
          replace f_s1 := Bs.below f_s1 (Keep.nil hE) (Nat.le_refl _)
          replace f_s2 := Bs.below f_s2 (Keep.nil hE) (Nat.le_refl _)
          replace f_s7 := Bs.below f_s7 (Keep.nil hE) (Nat.le_refl _)
          replace f_s8 := Bs.below f_s8 (Keep.nil hE) (Nat.le_refl _)
          replace f_s9 := Bs.below f_s9 (Keep.nil hE) (Nat.le_refl _)
          have B7 := hE.below B6 (HGS.out _ B6) rfl
          clear B6 hE hJ HWF q0 q2 q3 q4 q6 q7 q8 q9 q10 q11 q13 q14 q15 q16 q17 q18 q20 q22 q25 q27 q30 q31 q32 q33 q34 q35 q36 q37 q38
          go_wp2
          go_ret
          exact ⟨rfl, B7⟩
      · have q0 : (n0 : Int) = 32 := by omega
        have q1 : (n1 : Int) = 32 := by omega
        have q2 : (40 : Int) < (n2 : Int) := by omega
        clear h0 h1 h2 hB0 hB1 hB2 e0 e1 e2 d0 d1 d2
        go_enter Try.func8, Try.ntmps8
        go_wp2_with (go_at_call 9; refine (awake6_any _).mono ?_; rintro e w9 ⟨rfl, hb9⟩)
        go_ret
        exact ⟨rfl, hb9⟩
    · have q0 : (n0 : Int) = 32 := by omega
      have q1 : ¬ (n1 : Int) = 32 := by omega
      clear h0 h1 h2 hB0 hB1 hB2 e0 e1 e2 d0 d1
      go_enter Try.func8, Try.ntmps8
      go_wp2_with (go_at_call 9; refine (awake6_any _).mono ?_; rintro e w9 ⟨rfl, hb9⟩)
      go_ret
      exact ⟨rfl, hb9⟩
  · have q0 : ¬ (n0 : Int) = 32 := by omega
    clear h0 h1 h2 hB0 hB1 hB2 e0 e1 e2 d0
    go_enter Try.func8, Try.ntmps8
    go_wp2_with (go_at_call 9; refine (awake6_any _).mono ?_; rintro e w9 ⟨rfl, hb9⟩)
    go_ret
    exact ⟨rfl, hb9⟩
end Go.Proofs.Ytnoppemclfnlcaa
