/- missivelaw1.FlatAsks: the walk. -/
import Derived.Test.YtbcmocijoklchaaEq
import Derived.Test.YtbcmocijoklchaaXor
import Derived.Test.YtbcmocijoklchaaAll
import Derived.Test.YtbcmocijoklchaaLin
namespace Go.Proofs.Ytbcmocijoklchaa
open Go.RowKit Go.Deep

set_option maxHeartbeats 3200000 in
theorem law_flatAsks (w : World) (va : Value) (a : List UInt8) (hva : Bs w va a) (vb : Value) (b : List UInt8) (hvb : Bs w vb b) (vl : Value) (L : List (List UInt8)) (hvl : Bss w vl L) (x : Int) (hx : (Lit.int .u64 x).wf = true) :
    Calls Try.prog 3 #[va, vb, vl, .int .u64 x] w fun e w' => e = .returned (.bool true) ∧ Below w.heap.size w w' := by
  obtain ⟨hx0, hx1⟩ := bd_u64 hx
  obtain ⟨n, rfl⟩ := Int.eq_ofNat_of_zero_le hx0
  have HN : Hid (n < 2 ^ 64) := Lib.hid (by omega)
  obtain ⟨m, hm⟩ : ∃ m : Nat, m = n % 4294967296 := ⟨_, rfl⟩
  have hmn : IntKind.u32.wrap (n : Int) = (m : Int) := by rw [IntKind.wrap_u32]; omega
  have HM : Hid (m < 2 ^ 32) := Lib.hid (by omega)
  have hm1 : m ≤ 4294967295 := by omega
  clear hm
  clear hx hx0 hx1
  obtain ⟨a1, na, cap1, rfl, hna, h1, h2, hv1⟩ := hva.shape
  obtain ⟨a2, nb, cap2, rfl, hnb, h3, h4, hv2⟩ := hvb.shape
  have HV1 := Lib.hid hv1
  have HV2 := Lib.hid hv2
  have HL := Lib.hid hvl
  have HNA := Lib.hid hna
  have HNB := Lib.hid hnb
  clear hva hvb hv1 hv2 hna hnb hvl
  by_cases c1 : 3000 < na
  · have d1 : (3000 : Int) < (na : Int) := by omega
    go_enter Try.func3, Try.ntmps3
    go_wp2_with fail
    refine (awake_any _).mono ?_
    rintro e w1 ⟨rfl, hb⟩
    go_wp2
    go_ret
    exact ⟨rfl, hb⟩
  have d1 : ¬ (3000 : Int) < (na : Int) := by omega
  by_cases c2 : 3000 < nb
  · have d2 : (3000 : Int) < (nb : Int) := by omega
    go_enter Try.func3, Try.ntmps3
    go_wp2_with fail
    refine (awake_any _).mono ?_
    rintro e w1 ⟨rfl, hb⟩
    go_wp2
    go_ret
    exact ⟨rfl, hb⟩
  have d2 : ¬ (3000 : Int) < (nb : Int) := by omega
  go_enter Try.func3, Try.ntmps3
  go_wp2_with fail
  refine (all_any vl L 3000 _ HL.out (by omega)).mono ?_
  rintro e w1 ⟨s, rfl, hs1, hs2, B1⟩
  have HS := Lib.hid hs2
  clear hs2
  by_cases c3 : 3000 < s
  · have d3 : (3000 : Int) < (s : Int) := by omega
    go_wp2_with fail
    refine (awake_any _).mono ?_
    rintro e w2 ⟨rfl, hb⟩
    go_wp2
    go_ret
    exact ⟨rfl, B1.trans (hb.mono B1.size)⟩
  have d3 : ¬ (3000 : Int) < (s : Int) := by omega
  have HT : Hid (L.flatten.length ≤ 3000) := Lib.hid (by have := HS.out (by omega); omega)
  have A1 : Bs w1.drew (.slice a1 na cap1) a := HV1.out.below B1.drew (Nat.le_refl _)
  have A2 : Bs w1.drew (.slice a2 nb cap2) b := HV2.out.below B1.drew (Nat.le_refl _)
  have HL : Bss w1.drew vl L := HL.out.below B1.drew (Nat.le_refl _)
  have B : Below w.heap.size w w1.drew := B1.drew
  have h4 : IntKind.u32.wrap ((numB a 4 : Nat) : Int) = ((numB a 4 : Nat) : Int) := IntWalk.u32_in _ ⟨by omega, by have := numB_4 a; omega⟩
  have hmw : IntKind.u64.wrap (m : Int) = (m : Int) := IntWalk.u64_in _ ⟨by omega, by omega⟩
  go_wp2_with fail
  refine wp_region_lin [(0, 0), (1, 0), (3, 0), (4, 0), (5, 0), (6, 0), (7, 0), (2, 1), (8, 0), (9, 0), (10, 0), (11, 0), (14, 0), (15, 0), (12, 1), (13, 0), (16, 1), (17, 0), (18, 0), (19, 0), (20, 0), (21, 0), (24, 0), (22, 1), (23, 0), (25, 1), (26, 0), (27, 0), (28, 0), (29, 0), (30, 0), (31, 0), (34, 0), (35, 0), (36, 0), (32, 1), (33, 0), (37, 1), (38, 0), (39, 0), (40, 0), (41, 0), (42, 0), (45, 0), (43, 1), (44, 0), (46, 1), (47, 0), (48, 0), (49, 0), (50, 0), (51, 0), (54, 0), (52, 1), (53, 0), (55, 1), (56, 0), (57, 0), (58, 0), (59, 0), (60, 0), (62, 0), (61, 1), (63, 1), (64, 0), (65, 0), (66, 0), (67, 0), (68, 0), (70, 0), (69, 1), (71, 1), (72, 0), (73, 0), (74, 0), (75, 1), (76, 0), (77, 0)] (by kernel_rfl) (by kernel_rfl) (by decide) (by kernel_rfl) (fun d _ _ _ _ h => by cases d <;> exact h) ?_
  refine lin_pure 23 (Op.move (Operand.tmp 0)) 22 _ rfl rfl rfl rfl rfl (fun w0 => by unfold mkOp; go_simp; all_goals (with_reducible rfl)) ?_
  simp only [Act.put, List.setIfInBounds_toArray, List.set_cons_zero, List.set_cons_succ]
  refine lin_pure 24 (Op.move (Operand.tmp 1)) 22 _ rfl rfl rfl rfl rfl (fun w0 => by unfold mkOp; go_simp; all_goals (with_reducible rfl)) ?_
  simp only [Act.put, List.setIfInBounds_toArray, List.set_cons_zero, List.set_cons_succ]
  refine lin_pure 26 (Op.move (Operand.tmp 0)) 22 _ rfl rfl rfl rfl rfl (fun w0 => by unfold mkOp; go_simp; all_goals (with_reducible rfl)) ?_
  simp only [Act.put, List.setIfInBounds_toArray, List.set_cons_zero, List.set_cons_succ]
  refine lin_conv 27 (Operand.tmp 26) _ _ rfl rfl rfl rfl rfl (by assumption) ?_
  simp only [Act.put, List.setIfInBounds_toArray, List.set_cons_zero, List.set_cons_succ]
  refine lin_pure 28 (Op.move (Operand.tmp 1)) 22 _ rfl rfl rfl rfl rfl (fun w0 => by unfold mkOp; go_simp; all_goals (with_reducible rfl)) ?_
  simp only [Act.put, List.setIfInBounds_toArray, List.set_cons_zero, List.set_cons_succ]
  refine lin_conv 29 (Operand.tmp 28) _ _ rfl rfl rfl rfl rfl (by assumption) ?_
  simp only [Act.put, List.setIfInBounds_toArray, List.set_cons_zero, List.set_cons_succ]
  refine lin_pure 30 (Op.binOp BinOp.eql 9 (Operand.tmp 27) (Operand.tmp 29) 9) 4 _ rfl rfl rfl rfl rfl (fun w0 => by unfold mkOp; go_simp; all_goals (with_reducible rfl)) ?_
  simp only [Act.put, List.setIfInBounds_toArray, List.set_cons_zero, List.set_cons_succ]
  refine lin_fn 25 11 #[Operand.tmp 23, Operand.tmp 24] #[22, 22] _ (equal_any _ _ a b _ A1 A2) rfl rfl rfl rfl Try.func11 (by kernel_rfl) (by kernel_rfl) (by go_simp) ?_
  rintro e w2 ⟨rfl, rfl⟩
  refine ⟨_, rfl, Below.refl _ _, ?_⟩
  simp only [Act.put, List.setIfInBounds_toArray, List.set_cons_zero, List.set_cons_succ]
  refine lin_pure 31 (Op.binOp BinOp.eql 4 (Operand.tmp 25) (Operand.tmp 30) 4) 4 _ rfl rfl rfl rfl rfl (fun w0 => by unfold mkOp; go_simp; all_goals (with_reducible rfl)) ?_
  simp only [Act.put, List.setIfInBounds_toArray, List.set_cons_zero, List.set_cons_succ]
  refine lin_pure 32 (Op.move (Operand.tmp 31)) 4 _ rfl rfl rfl rfl rfl (fun w0 => by unfold mkOp; go_simp; all_goals (with_reducible rfl)) ?_
  simp only [Act.put, List.setIfInBounds_toArray, List.set_cons_zero, List.set_cons_succ]
  refine lin_pure 33 (Op.move (Operand.tmp 0)) 22 _ rfl rfl rfl rfl rfl (fun w0 => by unfold mkOp; go_simp; all_goals (with_reducible rfl)) ?_
  simp only [Act.put, List.setIfInBounds_toArray, List.set_cons_zero, List.set_cons_succ]
  refine lin_pure 34 (Op.move (Operand.tmp 1)) 22 _ rfl rfl rfl rfl rfl (fun w0 => by unfold mkOp; go_simp; all_goals (with_reducible rfl)) ?_
  simp only [Act.put, List.setIfInBounds_toArray, List.set_cons_zero, List.set_cons_succ]
  refine lin_pure 37 (Op.move (Operand.tmp 0)) 22 _ rfl rfl rfl rfl rfl (fun w0 => by unfold mkOp; go_simp; all_goals (with_reducible rfl)) ?_
  simp only [Act.put, List.setIfInBounds_toArray, List.set_cons_zero, List.set_cons_succ]
  refine lin_pure 38 (Op.move (Operand.tmp 1)) 22 _ rfl rfl rfl rfl rfl (fun w0 => by unfold mkOp; go_simp; all_goals (with_reducible rfl)) ?_
  simp only [Act.put, List.setIfInBounds_toArray, List.set_cons_zero, List.set_cons_succ]
  refine lin_fn 35 12 #[Operand.tmp 33, Operand.tmp 34] #[22, 22] _ (xor_any _ _ a b _ A1 A2 (by rw [HNA.out]; omega)) rfl rfl rfl rfl Try.func12 (by kernel_rfl) (by kernel_rfl) (by go_simp) ?_
  rintro e w3 ⟨v3, rfl, hX, b3⟩
  replace A1 := A1.below b3 (Nat.le_refl _)
  replace A2 := A2.below b3 (Nat.le_refl _)
  replace HL := HL.below b3 (Nat.le_refl _)
  replace B := B.trans (b3.mono B.size)
  refine ⟨_, rfl, b3, ?_⟩
  simp only [Act.put, List.setIfInBounds_toArray, List.set_cons_zero, List.set_cons_succ]
  refine lin_conv 36 (Operand.tmp 35) _ _ rfl rfl rfl rfl rfl (by assumption) ?_
  simp only [Act.put, List.setIfInBounds_toArray, List.set_cons_zero, List.set_cons_succ]
  refine lin_fn 39 13 #[Operand.tmp 37, Operand.tmp 38] #[22, 22] _ (refXor_any _ _ a b _ A1 A2 (by rw [HNA.out]; omega)) rfl rfl rfl rfl Try.func13 (by kernel_rfl) (by kernel_rfl) (by go_simp) ?_
  rintro e w4 ⟨v4, rfl, hX, b4⟩
  replace A1 := A1.below b4 (Nat.le_refl _)
  replace HL := HL.below b4 (Nat.le_refl _)
  replace B := B.trans (b4.mono B.size)
  refine ⟨_, rfl, b4, ?_⟩
  simp only [Act.put, List.setIfInBounds_toArray, List.set_cons_zero, List.set_cons_succ]
  refine lin_conv 40 (Operand.tmp 39) _ _ rfl rfl rfl rfl rfl (by assumption) ?_
  simp only [Act.put, List.setIfInBounds_toArray, List.set_cons_zero, List.set_cons_succ]
  refine lin_pure 41 (Op.binOp BinOp.eql 9 (Operand.tmp 36) (Operand.tmp 40) 9) 4 _ rfl rfl rfl rfl rfl (fun w0 => by unfold mkOp; go_simp; all_goals (with_reducible rfl)) ?_
  simp only [Act.put, List.setIfInBounds_toArray, List.set_cons_zero, List.set_cons_succ]
  refine lin_pure 42 (Op.pick (Operand.tmp 32) (Operand.tmp 41) (Operand.const (Value.bool false))) 4 _ rfl rfl rfl rfl rfl (fun w0 => by unfold mkOp; go_simp; all_goals (with_reducible rfl)) ?_
  simp only [Act.put, List.setIfInBounds_toArray, List.set_cons_zero, List.set_cons_succ]
  refine lin_pure 43 (Op.move (Operand.tmp 42)) 4 _ rfl rfl rfl rfl rfl (fun w0 => by unfold mkOp; go_simp; all_goals (with_reducible rfl)) ?_
  simp only [Act.put, List.setIfInBounds_toArray, List.set_cons_zero, List.set_cons_succ]
  refine lin_pure 44 (Op.move (Operand.tmp 2)) 23 _ rfl rfl rfl rfl rfl (fun w0 => by unfold mkOp; go_simp; all_goals (with_reducible rfl)) ?_
  simp only [Act.put, List.setIfInBounds_toArray, List.set_cons_zero, List.set_cons_succ]
  refine lin_pure 47 (Op.move (Operand.tmp 2)) 23 _ rfl rfl rfl rfl rfl (fun w0 => by unfold mkOp; go_simp; all_goals (with_reducible rfl)) ?_
  simp only [Act.put, List.setIfInBounds_toArray, List.set_cons_zero, List.set_cons_succ]
  refine lin_fn 45 14 #[Operand.tmp 44] #[23] _ (cat_any _ L _ HL (by have := HT.out; omega)) rfl rfl rfl rfl Try.func14 (by kernel_rfl) (by kernel_rfl) (by go_simp) ?_
  rintro e w5 ⟨v5, rfl, hO, b5⟩
  replace hX := hO.bs
  replace A1 := A1.below b5 (Nat.le_refl _)
  replace HL := HL.below b5 (Nat.le_refl _)
  replace B := B.trans (b5.mono B.size)
  refine ⟨_, rfl, b5, ?_⟩
  simp only [Act.put, List.setIfInBounds_toArray, List.set_cons_zero, List.set_cons_succ]
  refine lin_conv 46 (Operand.tmp 45) _ _ rfl rfl rfl rfl rfl (by assumption) ?_
  simp only [Act.put, List.setIfInBounds_toArray, List.set_cons_zero, List.set_cons_succ]
  refine lin_fn 48 15 #[Operand.tmp 47] #[23] _ (alikeCat_any _ L _ HL (by have := HT.out; omega)) rfl rfl rfl rfl Try.func15 (by kernel_rfl) (by kernel_rfl) (by go_simp) ?_
  rintro e w6 ⟨v6, rfl, hO, b6⟩
  replace hX := hO.bs
  replace A1 := A1.below b6 (Nat.le_refl _)
  replace B := B.trans (b6.mono B.size)
  refine ⟨_, rfl, b6, ?_⟩
  simp only [Act.put, List.setIfInBounds_toArray, List.set_cons_zero, List.set_cons_succ]
  refine lin_conv 49 (Operand.tmp 48) _ _ rfl rfl rfl rfl rfl (by assumption) ?_
  simp only [Act.put, List.setIfInBounds_toArray, List.set_cons_zero, List.set_cons_succ]
  refine lin_pure 50 (Op.binOp BinOp.eql 9 (Operand.tmp 46) (Operand.tmp 49) 9) 4 _ rfl rfl rfl rfl rfl (fun w0 => by unfold mkOp; go_simp; all_goals (with_reducible rfl)) ?_
  simp only [Act.put, List.setIfInBounds_toArray, List.set_cons_zero, List.set_cons_succ]
  refine lin_pure 51 (Op.pick (Operand.tmp 43) (Operand.tmp 50) (Operand.const (Value.bool false))) 4 _ rfl rfl rfl rfl rfl (fun w0 => by unfold mkOp; go_simp; all_goals (with_reducible rfl)) ?_
  simp only [Act.put, List.setIfInBounds_toArray, List.set_cons_zero, List.set_cons_succ]
  refine lin_pure 52 (Op.move (Operand.tmp 51)) 4 _ rfl rfl rfl rfl rfl (fun w0 => by unfold mkOp; go_simp; all_goals (with_reducible rfl)) ?_
  simp only [Act.put, List.setIfInBounds_toArray, List.set_cons_zero, List.set_cons_succ]
  refine lin_pure 53 (Op.move (Operand.tmp 3)) 24 _ rfl rfl rfl rfl rfl (fun w0 => by unfold mkOp; go_simp; all_goals (with_reducible rfl)) ?_
  simp only [Act.put, List.setIfInBounds_toArray, List.set_cons_zero, List.set_cons_succ]
  refine lin_pure 54 (Op.convert 24 32 (Operand.tmp 53)) 32 _ rfl rfl rfl rfl rfl (fun w0 => by unfold mkOp; go_simp; all_goals (with_reducible rfl)) ?_
  simp only [Act.put, List.setIfInBounds_toArray, List.set_cons_zero, List.set_cons_succ]
  refine lin_pure 57 (Op.move (Operand.tmp 3)) 24 _ rfl rfl rfl rfl rfl (fun w0 => by unfold mkOp; go_simp; all_goals (with_reducible rfl)) ?_
  simp only [Act.put, List.setIfInBounds_toArray, List.set_cons_zero, List.set_cons_succ]
  refine lin_pure 58 (Op.convert 24 32 (Operand.tmp 57)) 32 _ rfl rfl rfl rfl rfl (fun w0 => by unfold mkOp; go_simp; all_goals (with_reducible rfl)) ?_
  simp only [Act.put, List.setIfInBounds_toArray, List.set_cons_zero, List.set_cons_succ]
  refine lin_pure 59 (Op.convert 32 24 (Operand.tmp 58)) 24 _ rfl rfl rfl rfl rfl (fun w0 => by unfold mkOp; go_simp; all_goals (with_reducible rfl)) ?_
  simp only [Act.put, List.setIfInBounds_toArray, List.set_cons_zero, List.set_cons_succ]
  refine lin_fn 55 16 #[Operand.tmp 54] #[32] _ (put32_any m _ HM.out) rfl rfl rfl rfl Try.func16 (by kernel_rfl) (by kernel_rfl) (by go_simp) ?_
  rintro e w7 ⟨v7, rfl, hX, b7⟩
  replace A1 := A1.below b7 (Nat.le_refl _)
  replace B := B.trans (b7.mono B.size)
  refine ⟨_, rfl, b7, ?_⟩
  simp only [Act.put, List.setIfInBounds_toArray, List.set_cons_zero, List.set_cons_succ]
  refine lin_conv 56 (Operand.tmp 55) _ _ rfl rfl rfl rfl rfl (by assumption) ?_
  simp only [Act.put, List.setIfInBounds_toArray, List.set_cons_zero, List.set_cons_succ]
  refine lin_fn 60 17 #[Operand.tmp 59, Operand.const (Value.int IntKind.i64 4)] #[24, 3] _ (refBig_any m 4 _ (by have := HM.out; omega) (by omega) (by omega)) rfl rfl rfl rfl Try.func17 (by kernel_rfl) (by kernel_rfl) (by go_simp) ?_
  rintro e w8 ⟨v8, rfl, hX, b8⟩
  have hX : Bs w8 v8 (bigB m 4) := hX
  replace A1 := A1.below b8 (Nat.le_refl _)
  replace B := B.trans (b8.mono B.size)
  refine ⟨_, rfl, b8, ?_⟩
  simp only [Act.put, List.setIfInBounds_toArray, List.set_cons_zero, List.set_cons_succ]
  refine lin_conv 61 (Operand.tmp 60) _ _ rfl rfl rfl rfl rfl (by assumption) ?_
  simp only [Act.put, List.setIfInBounds_toArray, List.set_cons_zero, List.set_cons_succ]
  refine lin_pure 62 (Op.binOp BinOp.eql 9 (Operand.tmp 56) (Operand.tmp 61) 9) 4 _ rfl rfl rfl rfl rfl (fun w0 => by unfold mkOp; go_simp; all_goals (with_reducible rfl)) ?_
  simp only [Act.put, List.setIfInBounds_toArray, List.set_cons_zero, List.set_cons_succ]
  refine lin_pure 63 (Op.pick (Operand.tmp 52) (Operand.tmp 62) (Operand.const (Value.bool false))) 4 _ rfl rfl rfl rfl rfl (fun w0 => by unfold mkOp; go_simp; all_goals (with_reducible rfl)) ?_
  simp only [Act.put, List.setIfInBounds_toArray, List.set_cons_zero, List.set_cons_succ]
  refine lin_pure 64 (Op.move (Operand.tmp 63)) 4 _ rfl rfl rfl rfl rfl (fun w0 => by unfold mkOp; go_simp; all_goals (with_reducible rfl)) ?_
  simp only [Act.put, List.setIfInBounds_toArray, List.set_cons_zero, List.set_cons_succ]
  refine lin_pure 65 (Op.move (Operand.tmp 3)) 24 _ rfl rfl rfl rfl rfl (fun w0 => by unfold mkOp; go_simp; all_goals (with_reducible rfl)) ?_
  simp only [Act.put, List.setIfInBounds_toArray, List.set_cons_zero, List.set_cons_succ]
  refine lin_pure 68 (Op.move (Operand.tmp 3)) 24 _ rfl rfl rfl rfl rfl (fun w0 => by unfold mkOp; go_simp; all_goals (with_reducible rfl)) ?_
  simp only [Act.put, List.setIfInBounds_toArray, List.set_cons_zero, List.set_cons_succ]
  refine lin_fn 66 18 #[Operand.tmp 65] #[24] _ (put64_any n _ HN.out) rfl rfl rfl rfl Try.func18 (by kernel_rfl) (by kernel_rfl) (by go_simp) ?_
  rintro e w9 ⟨v9, rfl, hX, b9⟩
  replace A1 := A1.below b9 (Nat.le_refl _)
  replace B := B.trans (b9.mono B.size)
  refine ⟨_, rfl, b9, ?_⟩
  simp only [Act.put, List.setIfInBounds_toArray, List.set_cons_zero, List.set_cons_succ]
  refine lin_conv 67 (Operand.tmp 66) _ _ rfl rfl rfl rfl rfl (by assumption) ?_
  simp only [Act.put, List.setIfInBounds_toArray, List.set_cons_zero, List.set_cons_succ]
  refine lin_fn 69 17 #[Operand.tmp 68, Operand.const (Value.int IntKind.i64 8)] #[24, 3] _ (refBig_any n 8 _ HN.out (by omega) (by omega)) rfl rfl rfl rfl Try.func17 (by kernel_rfl) (by kernel_rfl) (by go_simp) ?_
  rintro e w10 ⟨v10, rfl, hX, b10⟩
  have hX : Bs w10 v10 (bigB n 8) := hX
  replace A1 := A1.below b10 (Nat.le_refl _)
  replace B := B.trans (b10.mono B.size)
  refine ⟨_, rfl, b10, ?_⟩
  simp only [Act.put, List.setIfInBounds_toArray, List.set_cons_zero, List.set_cons_succ]
  refine lin_conv 70 (Operand.tmp 69) _ _ rfl rfl rfl rfl rfl (by assumption) ?_
  simp only [Act.put, List.setIfInBounds_toArray, List.set_cons_zero, List.set_cons_succ]
  refine lin_pure 71 (Op.binOp BinOp.eql 9 (Operand.tmp 67) (Operand.tmp 70) 9) 4 _ rfl rfl rfl rfl rfl (fun w0 => by unfold mkOp; go_simp; all_goals (with_reducible rfl)) ?_
  simp only [Act.put, List.setIfInBounds_toArray, List.set_cons_zero, List.set_cons_succ]
  refine lin_pure 72 (Op.pick (Operand.tmp 64) (Operand.tmp 71) (Operand.const (Value.bool false))) 4 _ rfl rfl rfl rfl rfl (fun w0 => by unfold mkOp; go_simp; all_goals (with_reducible rfl)) ?_
  simp only [Act.put, List.setIfInBounds_toArray, List.set_cons_zero, List.set_cons_succ]
  refine lin_pure 73 (Op.move (Operand.tmp 72)) 4 _ rfl rfl rfl rfl rfl (fun w0 => by unfold mkOp; go_simp; all_goals (with_reducible rfl)) ?_
  simp only [Act.put, List.setIfInBounds_toArray, List.set_cons_zero, List.set_cons_succ]
  refine lin_pure 74 (Op.move (Operand.tmp 3)) 24 _ rfl rfl rfl rfl rfl (fun w0 => by unfold mkOp; go_simp; all_goals (with_reducible rfl)) ?_
  simp only [Act.put, List.setIfInBounds_toArray, List.set_cons_zero, List.set_cons_succ]
  refine lin_pure 77 (Op.move (Operand.tmp 3)) 24 _ rfl rfl rfl rfl rfl (fun w0 => by unfold mkOp; go_simp; all_goals (with_reducible rfl)) ?_
  simp only [Act.put, List.setIfInBounds_toArray, List.set_cons_zero, List.set_cons_succ]
  refine lin_fn 75 19 #[Operand.tmp 74] #[24] _ (little64_any n _ HN.out) rfl rfl rfl rfl Try.func19 (by kernel_rfl) (by kernel_rfl) (by go_simp) ?_
  rintro e w11 ⟨v11, rfl, hX, b11⟩
  replace A1 := A1.below b11 (Nat.le_refl _)
  replace B := B.trans (b11.mono B.size)
  refine ⟨_, rfl, b11, ?_⟩
  simp only [Act.put, List.setIfInBounds_toArray, List.set_cons_zero, List.set_cons_succ]
  refine lin_conv 76 (Operand.tmp 75) _ _ rfl rfl rfl rfl rfl (by assumption) ?_
  simp only [Act.put, List.setIfInBounds_toArray, List.set_cons_zero, List.set_cons_succ]
  refine lin_fn 78 20 #[Operand.tmp 77, Operand.const (Value.int IntKind.i64 8)] #[24, 3] _ (refLittle_any n 8 _ HN.out (by omega) (by omega)) rfl rfl rfl rfl Try.func20 (by kernel_rfl) (by kernel_rfl) (by go_simp) ?_
  rintro e w12 ⟨v12, rfl, hX, b12⟩
  have hX : Bs w12 v12 (litB n 8) := hX
  replace A1 := A1.below b12 (Nat.le_refl _)
  replace B := B.trans (b12.mono B.size)
  refine ⟨_, rfl, b12, ?_⟩
  simp only [Act.put, List.setIfInBounds_toArray, List.set_cons_zero, List.set_cons_succ]
  refine lin_conv 79 (Operand.tmp 78) _ _ rfl rfl rfl rfl rfl (by assumption) ?_
  simp only [Act.put, List.setIfInBounds_toArray, List.set_cons_zero, List.set_cons_succ]
  refine lin_pure 80 (Op.binOp BinOp.eql 9 (Operand.tmp 76) (Operand.tmp 79) 9) 4 _ rfl rfl rfl rfl rfl (fun w0 => by unfold mkOp; go_simp; all_goals (with_reducible rfl)) ?_
  simp only [Act.put, List.setIfInBounds_toArray, List.set_cons_zero, List.set_cons_succ]
  refine lin_pure 81 (Op.pick (Operand.tmp 73) (Operand.tmp 80) (Operand.const (Value.bool false))) 4 _ rfl rfl rfl rfl rfl (fun w0 => by unfold mkOp; go_simp; all_goals (with_reducible rfl)) ?_
  simp only [Act.put, List.setIfInBounds_toArray, List.set_cons_zero, List.set_cons_succ]
  refine lin_pure 82 (Op.move (Operand.tmp 81)) 4 _ rfl rfl rfl rfl rfl (fun w0 => by unfold mkOp; go_simp; all_goals (with_reducible rfl)) ?_
  simp only [Act.put, List.setIfInBounds_toArray, List.set_cons_zero, List.set_cons_succ]
  refine lin_pure 83 (Op.move (Operand.tmp 0)) 22 _ rfl rfl rfl rfl rfl (fun w0 => by unfold mkOp; go_simp; all_goals (with_reducible rfl)) ?_
  simp only [Act.put, List.setIfInBounds_toArray, List.set_cons_zero, List.set_cons_succ]
  refine lin_pure 85 (Op.move (Operand.tmp 0)) 22 _ rfl rfl rfl rfl rfl (fun w0 => by unfold mkOp; go_simp; all_goals (with_reducible rfl)) ?_
  simp only [Act.put, List.setIfInBounds_toArray, List.set_cons_zero, List.set_cons_succ]
  refine lin_fn 84 21 #[Operand.tmp 83] #[22] _ (get32_any _ _ _ A1) rfl rfl rfl rfl Try.func21 (by kernel_rfl) (by kernel_rfl) (by go_simp) ?_
  rintro e w13 ⟨rfl, rfl⟩
  refine ⟨_, rfl, Below.refl _ _, ?_⟩
  simp only [Act.put, List.setIfInBounds_toArray, List.set_cons_zero, List.set_cons_succ]
  refine lin_fn 86 22 #[Operand.tmp 85, Operand.const (Value.int IntKind.i64 4)] #[22, 3] _ (getBig_any _ _ 4 _ A1 (by omega) (by omega)) rfl rfl rfl rfl Try.func22 (by kernel_rfl) (by kernel_rfl) (by go_simp) ?_
  rintro e w14 ⟨rfl, rfl⟩
  refine ⟨.int .u64 (numB a 4 : Nat), rfl, Below.refl _ _, ?_⟩
  simp only [Act.put, List.setIfInBounds_toArray, List.set_cons_zero, List.set_cons_succ]
  refine lin_pure 87 (Op.convert 24 32 (Operand.tmp 86)) 32 _ rfl rfl rfl rfl rfl (fun w0 => by unfold mkOp; go_simp; all_goals (with_reducible rfl)) ?_
  simp only [Act.put, List.setIfInBounds_toArray, List.set_cons_zero, List.set_cons_succ]
  refine lin_pure 88 (Op.binOp BinOp.eql 32 (Operand.tmp 84) (Operand.tmp 87) 32) 4 _ rfl rfl rfl rfl rfl (fun w0 => by unfold mkOp; go_simp; all_goals (with_reducible rfl)) ?_
  simp only [Act.put, List.setIfInBounds_toArray, List.set_cons_zero, List.set_cons_succ]
  refine lin_pure 89 (Op.pick (Operand.tmp 82) (Operand.tmp 88) (Operand.const (Value.bool false))) 4 _ rfl rfl rfl rfl rfl (fun w0 => by unfold mkOp; go_simp; all_goals (with_reducible rfl)) ?_
  simp only [Act.put, List.setIfInBounds_toArray, List.set_cons_zero, List.set_cons_succ]
  refine lin_pure 90 (Op.move (Operand.tmp 89)) 4 _ rfl rfl rfl rfl rfl (fun w0 => by unfold mkOp; go_simp; all_goals (with_reducible rfl)) ?_
  simp only [Act.put, List.setIfInBounds_toArray, List.set_cons_zero, List.set_cons_succ]
  refine lin_pure 91 (Op.move (Operand.tmp 0)) 22 _ rfl rfl rfl rfl rfl (fun w0 => by unfold mkOp; go_simp; all_goals (with_reducible rfl)) ?_
  simp only [Act.put, List.setIfInBounds_toArray, List.set_cons_zero, List.set_cons_succ]
  refine lin_pure 93 (Op.move (Operand.tmp 0)) 22 _ rfl rfl rfl rfl rfl (fun w0 => by unfold mkOp; go_simp; all_goals (with_reducible rfl)) ?_
  simp only [Act.put, List.setIfInBounds_toArray, List.set_cons_zero, List.set_cons_succ]
  refine lin_fn 92 23 #[Operand.tmp 91] #[22] _ (get64_any _ _ _ A1) rfl rfl rfl rfl Try.func23 (by kernel_rfl) (by kernel_rfl) (by go_simp) ?_
  rintro e w15 ⟨rfl, rfl⟩
  refine ⟨_, rfl, Below.refl _ _, ?_⟩
  simp only [Act.put, List.setIfInBounds_toArray, List.set_cons_zero, List.set_cons_succ]
  refine lin_fn 94 22 #[Operand.tmp 93, Operand.const (Value.int IntKind.i64 8)] #[22, 3] _ (getBig_any _ _ 8 _ A1 (by omega) (by omega)) rfl rfl rfl rfl Try.func22 (by kernel_rfl) (by kernel_rfl) (by go_simp) ?_
  rintro e w16 ⟨rfl, rfl⟩
  refine ⟨.int .u64 (numB a 8 : Nat), rfl, Below.refl _ _, ?_⟩
  simp only [Act.put, List.setIfInBounds_toArray, List.set_cons_zero, List.set_cons_succ]
  refine lin_pure 95 (Op.binOp BinOp.eql 24 (Operand.tmp 92) (Operand.tmp 94) 24) 4 _ rfl rfl rfl rfl rfl (fun w0 => by unfold mkOp; go_simp; all_goals (with_reducible rfl)) ?_
  simp only [Act.put, List.setIfInBounds_toArray, List.set_cons_zero, List.set_cons_succ]
  refine lin_pure 96 (Op.pick (Operand.tmp 90) (Operand.tmp 95) (Operand.const (Value.bool false))) 4 _ rfl rfl rfl rfl rfl (fun w0 => by unfold mkOp; go_simp; all_goals (with_reducible rfl)) ?_
  simp only [Act.put, List.setIfInBounds_toArray, List.set_cons_zero, List.set_cons_succ]
  refine lin_pure 97 (Op.move (Operand.tmp 96)) 4 _ rfl rfl rfl rfl rfl (fun w0 => by unfold mkOp; go_simp; all_goals (with_reducible rfl)) ?_
  simp only [Act.put, List.setIfInBounds_toArray, List.set_cons_zero, List.set_cons_succ]
  refine lin_fn 98 10 #[] #[] _ (awake_any _) rfl rfl rfl rfl Try.func10 (by kernel_rfl) (by kernel_rfl) (by go_simp) ?_
  rintro e w17 ⟨rfl, b17⟩
  replace B := B.trans (b17.mono B.size)
  refine ⟨_, rfl, b17, ?_⟩
  simp only [Act.put, List.setIfInBounds_toArray, List.set_cons_zero, List.set_cons_succ]
  refine lin_pure 99 (Op.pick (Operand.tmp 97) (Operand.tmp 98) (Operand.const (Value.bool false))) 4 _ rfl rfl rfl rfl rfl (fun w0 => by unfold mkOp; go_simp; all_goals (with_reducible rfl)) ?_
  simp only [Act.put, List.setIfInBounds_toArray, List.set_cons_zero, List.set_cons_succ]
  refine lin_pure 8 (Op.assign (Operand.tmp 99)) 4 _ rfl rfl rfl rfl rfl (fun w0 => by unfold mkOp; go_simp; all_goals (with_reducible rfl)) ?_
  simp only [Act.put, List.setIfInBounds_toArray, List.set_cons_zero, List.set_cons_succ]
  refine lin_end ?_
  go_wp2
  go_ret
  exact ⟨rfl, B⟩
end Go.Proofs.Ytbcmocijoklchaa
