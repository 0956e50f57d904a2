/- missivelaw1.FlatBack: the walk. -/
import Derived.Test.YtbcmocijoklchaaLawNumbers
import Derived.Test.YtbcmocijoklchaaXor
import Derived.Test.YtbcmocijoklchaaLin
namespace Go.Proofs.Ytbcmocijoklchaa
open Go.RowKit Go.Deep

theorem xorB_back (a b : List UInt8) : xorB (xorB a b) b = a.take (min a.length b.length) := by
  apply List.ext_getElem
  · simp [xorB_length]
  · intro i h1 h2
    simp [xorB]
    rw [UInt8.xor_assoc, UInt8.xor_self, UInt8.xor_zero]
theorem xorB_self (a : List UInt8) : xorB a a = List.replicate a.length 0 := by
  apply List.ext_getElem
  · simp [xorB_length]
  · intro i h1 h2
    simp [xorB]
theorem numB_big4 (n : Nat) (hn : n < 2 ^ 32) : numB (bigB n 4) 4 = n := by
  have h := numB_big n 4 [] 4 (by omega)
  rw [List.append_nil] at h
  rw [h]
  simp
  omega
theorem numB_big8' (n : Nat) (hn : n < 2 ^ 64) : numB (bigB n 8) 8 = n := by
  have h := numB_big8 n [] hn
  rwa [List.append_nil] at h

theorem Bs.zeros (w : World) (n : Nat) (hn : n ≤ 9223372036854775807) : Bs (w.alloc (.cells (madeCells #[.int .u8 0] n) 5)) (.slice (some ⟨w.heap.size, 0, none⟩) n n) (List.replicate n 0) := by
  have h := Bs.of_rowIs (World.rowIs_made w (.int .u8 0) n 5) (List.replicate n 0) (by simp) (by unfold maxLen; omega) (by intro i hi; simp)
  simpa using h

set_option maxHeartbeats 3200000 in
theorem law_flatBack (w : World) (va : Value) (a : List UInt8) (hva : Bs w va a) (vb : Value) (b : List UInt8) (hvb : Bs w vb b) (x : Int) (hx : (Lit.int .u64 x).wf = true) :
    Calls Try.prog 6 #[va, vb, .int .u64 x] w fun e w' => e = .returned (.bool true) ∧ Below w.heap.size w w' := by
  obtain ⟨hx0, hx1⟩ := bd_u64 hx
  obtain ⟨n, rfl⟩ := Int.eq_ofNat_of_zero_le hx0
  have HN : Hid (n < 2 ^ 64) := Lib.hid (by omega)
  clear hx hx0 hx1
  obtain ⟨a1, na, cap1, rfl, hna, h1, h2, hv1⟩ := hva.shape
  obtain ⟨a2, nb, cap2, rfl, hnb, h3, h4, hv2⟩ := hvb.shape
  have HV1 := Lib.hid hv1
  have HV2 := Lib.hid hv2
  have HNA := Lib.hid hna
  have HNB := Lib.hid hnb
  clear hva hvb hv1 hv2 hna hnb
  by_cases c1 : 3000 < na
  · have d1 : (3000 : Int) < (na : Int) := by omega
    go_enter Try.func6, Try.ntmps6
    go_wp2_with fail
    refine (awake_any _).mono ?_
    rintro e w1 ⟨rfl, hb⟩
    go_wp2
    go_ret
    exact ⟨rfl, hb⟩
  have d1 : ¬ (3000 : Int) < (na : Int) := by omega
  by_cases c2 : 3000 < nb
  · have d2 : (3000 : Int) < (nb : Int) := by omega
    go_enter Try.func6, Try.ntmps6
    go_wp2_with fail
    refine (awake_any _).mono ?_
    rintro e w1 ⟨rfl, hb⟩
    go_wp2
    go_ret
    exact ⟨rfl, hb⟩
  have d2 : ¬ (3000 : Int) < (nb : Int) := by omega
  obtain ⟨k, hk⟩ : ∃ k, k = min na nb := ⟨_, rfl⟩
  have HK := Lib.hid hk
  have hkl : k ≤ na := by omega
  have hkr : k ≤ nb := by omega
  obtain ⟨m, hm⟩ : ∃ m : Nat, m = n % 4294967296 := ⟨_, rfl⟩
  have hmn : IntKind.u32.wrap (n : Int) = (m : Int) := by rw [IntKind.wrap_u32]; omega
  have HM : Hid (m < 2 ^ 32) := Lib.hid (by omega)
  clear hm
  have hkc : k ≤ cap1 := by omega
  by_cases hle : na ≤ nb
  · obtain rfl : k = na := by omega
    clear hk
    go_enter Try.func6, Try.ntmps6
    go_wp2_with fail
    refine (xor_any _ _ a b _ HV1.out HV2.out (by rw [HNA.out]; omega)).mono ?_
    rintro e w1 ⟨v1, rfl, hB1, hb1⟩
    have H2 := HV2.out.below hb1 (Nat.le_refl _)
    go_wp2_with fail
    refine (xor_any _ _ (xorB a b) b _ hB1 H2 (by rw [HNB.out]; omega)).mono ?_
    rintro e w2 ⟨v2, rfl, hB2, hb2⟩
    rw [xorB_back, HNA.out, HNB.out, ← HK.out] at hB2
    have B2 : Below w.heap.size w w2 := hb1.trans (hb2.mono hb1.size)
    clear hb1 hB1 H2 hb2
    have A1 : Bs w2.drew (.slice a1 k cap1) a := HV1.out.below B2.drew (Nat.le_refl _)
    have hT : Bs w2.drew (.slice a1 k cap1) (a.take k) := Bs.take A1 hkl
    have hX : Bs w2.drew v2 (a.take k) := hB2
    have B : Below w.heap.size w w2.drew := B2.drew
    have HA : Hid (xorB a a = List.replicate k 0) := Lib.hid (by rw [xorB_self, HNA.out])
    have hmk := fun (w : World) => run_make_row' (P := Try.prog) 22 5 (.int .u8 0) 1 Try.underlying22 Try.info5 rfl .i64 .i64 k (by omega) (by omega) w
    clear hB2 B2
    go_wp2_with fail
    refine wp_region_lin [(0, 0), (1, 0), (2, 0), (3, 0), (4, 0), (5, 0), (6, 0), (7, 0), (8, 0), (11, 0), (9, 1), (10, 1), (12, 0), (13, 0), (14, 0), (15, 0), (16, 0), (19, 0), (20, 0), (17, 1), (18, 1), (21, 0), (22, 0), (23, 0), (24, 0), (25, 0), (27, 0), (28, 0), (26, 31), (30, 1), (31, 0), (32, 0), (33, 1), (34, 0), (35, 0)] (by kernel_rfl) (by kernel_rfl) (by decide) (by kernel_rfl) (fun d _ _ _ _ h => by cases d <;> exact h) ?_
    refine lin_pure 28 (Op.move (Operand.tmp 8)) 22 _ rfl rfl rfl rfl rfl (fun w0 => by unfold mkOp; go_simp; all_goals (with_reducible rfl)) ?_
    simp only [Act.put, List.setIfInBounds_toArray, List.set_cons_zero, List.set_cons_succ]
    refine lin_conv 29 (Operand.tmp 28) _ _ rfl rfl rfl rfl rfl (by assumption) ?_
    simp only [Act.put, List.setIfInBounds_toArray, List.set_cons_zero, List.set_cons_succ]
    refine lin_pure 30 (Op.move (Operand.tmp 0)) 22 _ rfl rfl rfl rfl rfl (fun w0 => by unfold mkOp; go_simp; all_goals (with_reducible rfl)) ?_
    simp only [Act.put, List.setIfInBounds_toArray, List.set_cons_zero, List.set_cons_succ]
    refine lin_pure 31 (Op.move (Operand.tmp 7)) 3 _ rfl rfl rfl rfl rfl (fun w0 => by unfold mkOp; go_simp; all_goals (with_reducible rfl)) ?_
    simp only [Act.put, List.setIfInBounds_toArray, List.set_cons_zero, List.set_cons_succ]
    refine lin_pure 32 (Op.slice 22 (Operand.tmp 30) none (some (Operand.tmp 31)) none) 22 _ rfl rfl rfl rfl rfl (fun w0 => by unfold mkOp; go_simp; all_goals (with_reducible rfl)) ?_
    simp only [Act.put, List.setIfInBounds_toArray, List.set_cons_zero, List.set_cons_succ]
    refine lin_conv 33 (Operand.tmp 32) _ _ rfl rfl rfl rfl rfl (by assumption) ?_
    simp only [Act.put, List.setIfInBounds_toArray, List.set_cons_zero, List.set_cons_succ]
    refine lin_pure 34 (Op.binOp BinOp.eql 9 (Operand.tmp 29) (Operand.tmp 33) 9) 4 _ rfl rfl rfl rfl rfl (fun w0 => by unfold mkOp; go_simp; all_goals (with_reducible rfl)) ?_
    simp only [Act.put, List.setIfInBounds_toArray, List.set_cons_zero, List.set_cons_succ]
    refine lin_pure 35 (Op.move (Operand.tmp 34)) 4 _ rfl rfl rfl rfl rfl (fun w0 => by unfold mkOp; go_simp; all_goals (with_reducible rfl)) ?_
    simp only [Act.put, List.setIfInBounds_toArray, List.set_cons_zero, List.set_cons_succ]
    refine lin_pure 36 (Op.move (Operand.tmp 2)) 24 _ rfl rfl rfl rfl rfl (fun w0 => by unfold mkOp; go_simp; all_goals (with_reducible rfl)) ?_
    simp only [Act.put, List.setIfInBounds_toArray, List.set_cons_zero, List.set_cons_succ]
    refine lin_pure 39 (Op.move (Operand.tmp 2)) 24 _ rfl rfl rfl rfl rfl (fun w0 => by unfold mkOp; go_simp; all_goals (with_reducible rfl)) ?_
    simp only [Act.put, List.setIfInBounds_toArray, List.set_cons_zero, List.set_cons_succ]
    refine lin_fn 37 18 #[Operand.tmp 36] #[24] _ (put64_any n _ HN.out) rfl rfl rfl rfl Try.func18 (by kernel_rfl) (by kernel_rfl) (by go_simp) ?_
    rintro e w3 ⟨v3, rfl, hX, b3⟩
    replace A1 := A1.below b3 (Nat.le_refl _)
    replace B := B.trans (b3.mono B.size)
    refine ⟨_, rfl, b3, ?_⟩
    simp only [Act.put, List.setIfInBounds_toArray, List.set_cons_zero, List.set_cons_succ]
    refine lin_fn 38 23 #[Operand.tmp 37] #[22] _ (get64_any _ _ _ hX) rfl rfl rfl rfl Try.func23 (by kernel_rfl) (by kernel_rfl) (by go_simp) ?_
    rintro e w4 ⟨rfl, rfl⟩
    rw [numB_big8' n HN.out]
    refine ⟨_, rfl, Below.refl _ _, ?_⟩
    simp only [Act.put, List.setIfInBounds_toArray, List.set_cons_zero, List.set_cons_succ]
    refine lin_pure 40 (Op.binOp BinOp.eql 24 (Operand.tmp 38) (Operand.tmp 39) 24) 4 _ rfl rfl rfl rfl rfl (fun w0 => by unfold mkOp; go_simp; all_goals (with_reducible rfl)) ?_
    simp only [Act.put, List.setIfInBounds_toArray, List.set_cons_zero, List.set_cons_succ]
    refine lin_pure 41 (Op.pick (Operand.tmp 35) (Operand.tmp 40) (Operand.const (Value.bool false))) 4 _ rfl rfl rfl rfl rfl (fun w0 => by unfold mkOp; go_simp; all_goals (with_reducible rfl)) ?_
    simp only [Act.put, List.setIfInBounds_toArray, List.set_cons_zero, List.set_cons_succ]
    refine lin_pure 42 (Op.move (Operand.tmp 41)) 4 _ rfl rfl rfl rfl rfl (fun w0 => by unfold mkOp; go_simp; all_goals (with_reducible rfl)) ?_
    simp only [Act.put, List.setIfInBounds_toArray, List.set_cons_zero, List.set_cons_succ]
    refine lin_pure 43 (Op.move (Operand.tmp 2)) 24 _ rfl rfl rfl rfl rfl (fun w0 => by unfold mkOp; go_simp; all_goals (with_reducible rfl)) ?_
    simp only [Act.put, List.setIfInBounds_toArray, List.set_cons_zero, List.set_cons_succ]
    refine lin_pure 44 (Op.convert 24 32 (Operand.tmp 43)) 32 _ rfl rfl rfl rfl rfl (fun w0 => by unfold mkOp; go_simp; all_goals (with_reducible rfl)) ?_
    simp only [Act.put, List.setIfInBounds_toArray, List.set_cons_zero, List.set_cons_succ]
    refine lin_pure 47 (Op.move (Operand.tmp 2)) 24 _ rfl rfl rfl rfl rfl (fun w0 => by unfold mkOp; go_simp; all_goals (with_reducible rfl)) ?_
    simp only [Act.put, List.setIfInBounds_toArray, List.set_cons_zero, List.set_cons_succ]
    refine lin_pure 48 (Op.convert 24 32 (Operand.tmp 47)) 32 _ rfl rfl rfl rfl rfl (fun w0 => by unfold mkOp; go_simp; all_goals (with_reducible rfl)) ?_
    simp only [Act.put, List.setIfInBounds_toArray, List.set_cons_zero, List.set_cons_succ]
    refine lin_fn 45 16 #[Operand.tmp 44] #[32] _ (put32_any m _ HM.out) rfl rfl rfl rfl Try.func16 (by kernel_rfl) (by kernel_rfl) (by go_simp) ?_
    rintro e w5 ⟨v5, rfl, hX, b5⟩
    replace A1 := A1.below b5 (Nat.le_refl _)
    replace B := B.trans (b5.mono B.size)
    refine ⟨_, rfl, b5, ?_⟩
    simp only [Act.put, List.setIfInBounds_toArray, List.set_cons_zero, List.set_cons_succ]
    refine lin_fn 46 21 #[Operand.tmp 45] #[22] _ (get32_any _ _ _ hX) rfl rfl rfl rfl Try.func21 (by kernel_rfl) (by kernel_rfl) (by go_simp) ?_
    rintro e w6 ⟨rfl, rfl⟩
    rw [numB_big4 m HM.out]
    clear hX
    refine ⟨_, rfl, Below.refl _ _, ?_⟩
    simp only [Act.put, List.setIfInBounds_toArray, List.set_cons_zero, List.set_cons_succ]
    refine lin_pure 49 (Op.binOp BinOp.eql 32 (Operand.tmp 46) (Operand.tmp 48) 32) 4 _ rfl rfl rfl rfl rfl (fun w0 => by unfold mkOp; go_simp; all_goals (with_reducible rfl)) ?_
    simp only [Act.put, List.setIfInBounds_toArray, List.set_cons_zero, List.set_cons_succ]
    refine lin_pure 50 (Op.pick (Operand.tmp 42) (Operand.tmp 49) (Operand.const (Value.bool false))) 4 _ rfl rfl rfl rfl rfl (fun w0 => by unfold mkOp; go_simp; all_goals (with_reducible rfl)) ?_
    simp only [Act.put, List.setIfInBounds_toArray, List.set_cons_zero, List.set_cons_succ]
    refine lin_pure 51 (Op.move (Operand.tmp 50)) 4 _ rfl rfl rfl rfl rfl (fun w0 => by unfold mkOp; go_simp; all_goals (with_reducible rfl)) ?_
    simp only [Act.put, List.setIfInBounds_toArray, List.set_cons_zero, List.set_cons_succ]
    refine lin_pure 52 (Op.move (Operand.tmp 0)) 22 _ rfl rfl rfl rfl rfl (fun w0 => by unfold mkOp; go_simp; all_goals (with_reducible rfl)) ?_
    simp only [Act.put, List.setIfInBounds_toArray, List.set_cons_zero, List.set_cons_succ]
    refine lin_pure 53 (Op.move (Operand.tmp 0)) 22 _ rfl rfl rfl rfl rfl (fun w0 => by unfold mkOp; go_simp; all_goals (with_reducible rfl)) ?_
    simp only [Act.put, List.setIfInBounds_toArray, List.set_cons_zero, List.set_cons_succ]
    refine lin_pure 55 (Op.move (Operand.tmp 0)) 22 _ rfl rfl rfl rfl rfl (fun w0 => by unfold mkOp; go_simp; all_goals (with_reducible rfl)) ?_
    simp only [Act.put, List.setIfInBounds_toArray, List.set_cons_zero, List.set_cons_succ]
    refine lin_pure 56 (Op.call { callee := Callee.builtin Builtin.len, args := #[Operand.tmp 55], argTypes := #[22] }) 3 _ rfl rfl rfl rfl rfl (fun w0 => by unfold mkOp; go_simp; all_goals (with_reducible rfl)) ?_
    simp only [Act.put, List.setIfInBounds_toArray, List.set_cons_zero, List.set_cons_succ]
    refine lin_fork ?_ ?_
    focus
      refine lin_fn 54 12 #[Operand.tmp 52, Operand.tmp 53] #[22, 22] _ (xor_any _ _ a a _ A1 A1 (by rw [HNA.out]; omega)) rfl rfl rfl rfl Try.func12 (by kernel_rfl) (by kernel_rfl) (by go_simp) ?_
      rintro e w7 ⟨v7, rfl, hX, b7⟩
      rw [HA.out] at hX
      replace B := B.trans (b7.mono B.size)
      refine ⟨_, rfl, b7, ?_⟩
      simp only [Act.put, List.setIfInBounds_toArray, List.set_cons_zero, List.set_cons_succ]
      refine lin_made 57 (Op.makeSlice 22 (Operand.tmp 56) (Operand.tmp 56)) 22 (.slice (some ⟨w7.heap.size, 0, none⟩) k k) (w7.alloc (.cells (madeCells #[.int .u8 0] k) 5)) rfl rfl rfl rfl rfl (by unfold mkOp; go_simp) ((Below.refl _ _).alloc (Nat.le_refl _) _) ?_
      have hZ := Bs.zeros w7 k (by omega)
      replace hX := hX.below ((Below.refl _ _).alloc (Nat.le_refl _) (.cells (madeCells #[.int .u8 0] k) 5)) (Nat.le_refl _)
      replace B := B.alloc B.size (.cells (madeCells #[.int .u8 0] k) 5)
      simp only [Act.put, List.setIfInBounds_toArray, List.set_cons_zero, List.set_cons_succ]
    rotate_left
    focus
      refine lin_made 57 (Op.makeSlice 22 (Operand.tmp 56) (Operand.tmp 56)) 22 (.slice (some ⟨w6.heap.size, 0, none⟩) k k) (w6.alloc (.cells (madeCells #[.int .u8 0] k) 5)) rfl rfl rfl rfl rfl (by unfold mkOp; go_simp) ((Below.refl _ _).alloc (Nat.le_refl _) _) ?_
      have hZ := Bs.zeros w6 k (by omega)
      replace A1 := A1.below ((Below.refl _ _).alloc (Nat.le_refl _) (.cells (madeCells #[.int .u8 0] k) 5)) (Nat.le_refl _)
      replace B := B.alloc B.size (.cells (madeCells #[.int .u8 0] k) 5)
      simp only [Act.put, List.setIfInBounds_toArray, List.set_cons_zero, List.set_cons_succ]
      refine lin_fn 54 12 #[Operand.tmp 52, Operand.tmp 53] #[22, 22] _ (xor_any _ _ a a _ A1 A1 (by rw [HNA.out]; omega)) rfl rfl rfl rfl Try.func12 (by kernel_rfl) (by kernel_rfl) (by go_simp) ?_
      rintro e w7 ⟨v7, rfl, hX, b7⟩
      rw [HA.out] at hX
      replace B := B.trans (b7.mono B.size)
      replace hZ := hZ.below b7 (Nat.le_refl _)
      refine ⟨_, rfl, b7, ?_⟩
      simp only [Act.put, List.setIfInBounds_toArray, List.set_cons_zero, List.set_cons_succ]
    all_goals
      refine lin_fn 58 11 #[Operand.tmp 54, Operand.tmp 57] #[22, 22] _ (equal_same _ _ _ _ _ hX hZ rfl) rfl rfl rfl rfl Try.func11 (by kernel_rfl) (by kernel_rfl) (by go_simp) ?_
      rintro e w8 ⟨rfl, rfl⟩
      refine ⟨_, rfl, Below.refl _ _, ?_⟩
      simp only [Act.put, List.setIfInBounds_toArray, List.set_cons_zero, List.set_cons_succ]
      refine lin_pure 59 (Op.pick (Operand.tmp 51) (Operand.tmp 58) (Operand.const (Value.bool false))) 4 _ rfl rfl rfl rfl rfl (fun w0 => by unfold mkOp; go_simp; all_goals (with_reducible rfl)) ?_
      simp only [Act.put, List.setIfInBounds_toArray, List.set_cons_zero, List.set_cons_succ]
      refine lin_pure 60 (Op.move (Operand.tmp 59)) 4 _ rfl rfl rfl rfl rfl (fun w0 => by unfold mkOp; go_simp; all_goals (with_reducible rfl)) ?_
      simp only [Act.put, List.setIfInBounds_toArray, List.set_cons_zero, List.set_cons_succ]
      refine lin_fn 61 10 #[] #[] _ (awake_any _) rfl rfl rfl rfl Try.func10 (by kernel_rfl) (by kernel_rfl) (by go_simp) ?_
      rintro e w9 ⟨rfl, b9⟩
      replace B := B.trans (b9.mono B.size)
      refine ⟨_, rfl, b9, ?_⟩
      simp only [Act.put, List.setIfInBounds_toArray, List.set_cons_zero, List.set_cons_succ]
      refine lin_pure 62 (Op.pick (Operand.tmp 60) (Operand.tmp 61) (Operand.const (Value.bool false))) 4 _ rfl rfl rfl rfl rfl (fun w0 => by unfold mkOp; go_simp; all_goals (with_reducible rfl)) ?_
      simp only [Act.put, List.setIfInBounds_toArray, List.set_cons_zero, List.set_cons_succ]
      refine lin_pure 6 (Op.assign (Operand.tmp 62)) 4 _ rfl rfl rfl rfl rfl (fun w0 => by unfold mkOp; go_simp; all_goals (with_reducible rfl)) ?_
      simp only [Act.put, List.setIfInBounds_toArray, List.set_cons_zero, List.set_cons_succ]
      refine lin_end ?_
      go_wp2
      go_ret
      exact ⟨rfl, B⟩
  · obtain rfl : k = nb := by omega
    clear hk
    go_enter Try.func6, Try.ntmps6
    go_wp2_with fail
    refine (xor_any _ _ a b _ HV1.out HV2.out (by rw [HNA.out]; omega)).mono ?_
    rintro e w1 ⟨v1, rfl, hB1, hb1⟩
    have H2 := HV2.out.below hb1 (Nat.le_refl _)
    go_wp2_with fail
    refine (xor_any _ _ (xorB a b) b _ hB1 H2 (by rw [HNB.out]; omega)).mono ?_
    rintro e w2 ⟨v2, rfl, hB2, hb2⟩
    rw [xorB_back, HNA.out, HNB.out, ← HK.out] at hB2
    have B2 : Below w.heap.size w w2 := hb1.trans (hb2.mono hb1.size)
    clear hb1 hB1 H2 hb2
    have A1 : Bs w2.drew (.slice a1 na cap1) a := HV1.out.below B2.drew (Nat.le_refl _)
    have hT : Bs w2.drew (.slice a1 k cap1) (a.take k) := Bs.take A1 hkl
    have hX : Bs w2.drew v2 (a.take k) := hB2
    have B : Below w.heap.size w w2.drew := B2.drew
    have HA : Hid (xorB a a = List.replicate na 0) := Lib.hid (by rw [xorB_self, HNA.out])
    have hmk := fun (w : World) => run_make_row' (P := Try.prog) 22 5 (.int .u8 0) 1 Try.underlying22 Try.info5 rfl .i64 .i64 na (by omega) (by omega) w
    clear hB2 B2
    go_wp2_with fail
    refine wp_region_lin [(0, 0), (1, 0), (2, 0), (3, 0), (4, 0), (5, 0), (6, 0), (7, 0), (8, 0), (11, 0), (9, 1), (10, 1), (12, 0), (13, 0), (14, 0), (15, 0), (16, 0), (19, 0), (20, 0), (17, 1), (18, 1), (21, 0), (22, 0), (23, 0), (24, 0), (25, 0), (27, 0), (28, 0), (26, 31), (30, 1), (31, 0), (32, 0), (33, 1), (34, 0), (35, 0)] (by kernel_rfl) (by kernel_rfl) (by decide) (by kernel_rfl) (fun d _ _ _ _ h => by cases d <;> exact h) ?_
    refine lin_pure 28 (Op.move (Operand.tmp 8)) 22 _ rfl rfl rfl rfl rfl (fun w0 => by unfold mkOp; go_simp; all_goals (with_reducible rfl)) ?_
    simp only [Act.put, List.setIfInBounds_toArray, List.set_cons_zero, List.set_cons_succ]
    refine lin_conv 29 (Operand.tmp 28) _ _ rfl rfl rfl rfl rfl (by assumption) ?_
    simp only [Act.put, List.setIfInBounds_toArray, List.set_cons_zero, List.set_cons_succ]
    refine lin_pure 30 (Op.move (Operand.tmp 0)) 22 _ rfl rfl rfl rfl rfl (fun w0 => by unfold mkOp; go_simp; all_goals (with_reducible rfl)) ?_
    simp only [Act.put, List.setIfInBounds_toArray, List.set_cons_zero, List.set_cons_succ]
    refine lin_pure 31 (Op.move (Operand.tmp 7)) 3 _ rfl rfl rfl rfl rfl (fun w0 => by unfold mkOp; go_simp; all_goals (with_reducible rfl)) ?_
    simp only [Act.put, List.setIfInBounds_toArray, List.set_cons_zero, List.set_cons_succ]
    refine lin_pure 32 (Op.slice 22 (Operand.tmp 30) none (some (Operand.tmp 31)) none) 22 _ rfl rfl rfl rfl rfl (fun w0 => by unfold mkOp; go_simp; all_goals (with_reducible rfl)) ?_
    simp only [Act.put, List.setIfInBounds_toArray, List.set_cons_zero, List.set_cons_succ]
    refine lin_conv 33 (Operand.tmp 32) _ _ rfl rfl rfl rfl rfl (by assumption) ?_
    simp only [Act.put, List.setIfInBounds_toArray, List.set_cons_zero, List.set_cons_succ]
    refine lin_pure 34 (Op.binOp BinOp.eql 9 (Operand.tmp 29) (Operand.tmp 33) 9) 4 _ rfl rfl rfl rfl rfl (fun w0 => by unfold mkOp; go_simp; all_goals (with_reducible rfl)) ?_
    simp only [Act.put, List.setIfInBounds_toArray, List.set_cons_zero, List.set_cons_succ]
    refine lin_pure 35 (Op.move (Operand.tmp 34)) 4 _ rfl rfl rfl rfl rfl (fun w0 => by unfold mkOp; go_simp; all_goals (with_reducible rfl)) ?_
    simp only [Act.put, List.setIfInBounds_toArray, List.set_cons_zero, List.set_cons_succ]
    refine lin_pure 36 (Op.move (Operand.tmp 2)) 24 _ rfl rfl rfl rfl rfl (fun w0 => by unfold mkOp; go_simp; all_goals (with_reducible rfl)) ?_
    simp only [Act.put, List.setIfInBounds_toArray, List.set_cons_zero, List.set_cons_succ]
    refine lin_pure 39 (Op.move (Operand.tmp 2)) 24 _ rfl rfl rfl rfl rfl (fun w0 => by unfold mkOp; go_simp; all_goals (with_reducible rfl)) ?_
    simp only [Act.put, List.setIfInBounds_toArray, List.set_cons_zero, List.set_cons_succ]
    refine lin_fn 37 18 #[Operand.tmp 36] #[24] _ (put64_any n _ HN.out) rfl rfl rfl rfl Try.func18 (by kernel_rfl) (by kernel_rfl) (by go_simp) ?_
    rintro e w3 ⟨v3, rfl, hX, b3⟩
    replace A1 := A1.below b3 (Nat.le_refl _)
    replace B := B.trans (b3.mono B.size)
    refine ⟨_, rfl, b3, ?_⟩
    simp only [Act.put, List.setIfInBounds_toArray, List.set_cons_zero, List.set_cons_succ]
    refine lin_fn 38 23 #[Operand.tmp 37] #[22] _ (get64_any _ _ _ hX) rfl rfl rfl rfl Try.func23 (by kernel_rfl) (by kernel_rfl) (by go_simp) ?_
    rintro e w4 ⟨rfl, rfl⟩
    rw [numB_big8' n HN.out]
    refine ⟨_, rfl, Below.refl _ _, ?_⟩
    simp only [Act.put, List.setIfInBounds_toArray, List.set_cons_zero, List.set_cons_succ]
    refine lin_pure 40 (Op.binOp BinOp.eql 24 (Operand.tmp 38) (Operand.tmp 39) 24) 4 _ rfl rfl rfl rfl rfl (fun w0 => by unfold mkOp; go_simp; all_goals (with_reducible rfl)) ?_
    simp only [Act.put, List.setIfInBounds_toArray, List.set_cons_zero, List.set_cons_succ]
    refine lin_pure 41 (Op.pick (Operand.tmp 35) (Operand.tmp 40) (Operand.const (Value.bool false))) 4 _ rfl rfl rfl rfl rfl (fun w0 => by unfold mkOp; go_simp; all_goals (with_reducible rfl)) ?_
    simp only [Act.put, List.setIfInBounds_toArray, List.set_cons_zero, List.set_cons_succ]
    refine lin_pure 42 (Op.move (Operand.tmp 41)) 4 _ rfl rfl rfl rfl rfl (fun w0 => by unfold mkOp; go_simp; all_goals (with_reducible rfl)) ?_
    simp only [Act.put, List.setIfInBounds_toArray, List.set_cons_zero, List.set_cons_succ]
    refine lin_pure 43 (Op.move (Operand.tmp 2)) 24 _ rfl rfl rfl rfl rfl (fun w0 => by unfold mkOp; go_simp; all_goals (with_reducible rfl)) ?_
    simp only [Act.put, List.setIfInBounds_toArray, List.set_cons_zero, List.set_cons_succ]
    refine lin_pure 44 (Op.convert 24 32 (Operand.tmp 43)) 32 _ rfl rfl rfl rfl rfl (fun w0 => by unfold mkOp; go_simp; all_goals (with_reducible rfl)) ?_
    simp only [Act.put, List.setIfInBounds_toArray, List.set_cons_zero, List.set_cons_succ]
    refine lin_pure 47 (Op.move (Operand.tmp 2)) 24 _ rfl rfl rfl rfl rfl (fun w0 => by unfold mkOp; go_simp; all_goals (with_reducible rfl)) ?_
    simp only [Act.put, List.setIfInBounds_toArray, List.set_cons_zero, List.set_cons_succ]
    refine lin_pure 48 (Op.convert 24 32 (Operand.tmp 47)) 32 _ rfl rfl rfl rfl rfl (fun w0 => by unfold mkOp; go_simp; all_goals (with_reducible rfl)) ?_
    simp only [Act.put, List.setIfInBounds_toArray, List.set_cons_zero, List.set_cons_succ]
    refine lin_fn 45 16 #[Operand.tmp 44] #[32] _ (put32_any m _ HM.out) rfl rfl rfl rfl Try.func16 (by kernel_rfl) (by kernel_rfl) (by go_simp) ?_
    rintro e w5 ⟨v5, rfl, hX, b5⟩
    replace A1 := A1.below b5 (Nat.le_refl _)
    replace B := B.trans (b5.mono B.size)
    refine ⟨_, rfl, b5, ?_⟩
    simp only [Act.put, List.setIfInBounds_toArray, List.set_cons_zero, List.set_cons_succ]
    refine lin_fn 46 21 #[Operand.tmp 45] #[22] _ (get32_any _ _ _ hX) rfl rfl rfl rfl Try.func21 (by kernel_rfl) (by kernel_rfl) (by go_simp) ?_
    rintro e w6 ⟨rfl, rfl⟩
    rw [numB_big4 m HM.out]
    clear hX
    refine ⟨_, rfl, Below.refl _ _, ?_⟩
    simp only [Act.put, List.setIfInBounds_toArray, List.set_cons_zero, List.set_cons_succ]
    refine lin_pure 49 (Op.binOp BinOp.eql 32 (Operand.tmp 46) (Operand.tmp 48) 32) 4 _ rfl rfl rfl rfl rfl (fun w0 => by unfold mkOp; go_simp; all_goals (with_reducible rfl)) ?_
    simp only [Act.put, List.setIfInBounds_toArray, List.set_cons_zero, List.set_cons_succ]
    refine lin_pure 50 (Op.pick (Operand.tmp 42) (Operand.tmp 49) (Operand.const (Value.bool false))) 4 _ rfl rfl rfl rfl rfl (fun w0 => by unfold mkOp; go_simp; all_goals (with_reducible rfl)) ?_
    simp only [Act.put, List.setIfInBounds_toArray, List.set_cons_zero, List.set_cons_succ]
    refine lin_pure 51 (Op.move (Operand.tmp 50)) 4 _ rfl rfl rfl rfl rfl (fun w0 => by unfold mkOp; go_simp; all_goals (with_reducible rfl)) ?_
    simp only [Act.put, List.setIfInBounds_toArray, List.set_cons_zero, List.set_cons_succ]
    refine lin_pure 52 (Op.move (Operand.tmp 0)) 22 _ rfl rfl rfl rfl rfl (fun w0 => by unfold mkOp; go_simp; all_goals (with_reducible rfl)) ?_
    simp only [Act.put, List.setIfInBounds_toArray, List.set_cons_zero, List.set_cons_succ]
    refine lin_pure 53 (Op.move (Operand.tmp 0)) 22 _ rfl rfl rfl rfl rfl (fun w0 => by unfold mkOp; go_simp; all_goals (with_reducible rfl)) ?_
    simp only [Act.put, List.setIfInBounds_toArray, List.set_cons_zero, List.set_cons_succ]
    refine lin_pure 55 (Op.move (Operand.tmp 0)) 22 _ rfl rfl rfl rfl rfl (fun w0 => by unfold mkOp; go_simp; all_goals (with_reducible rfl)) ?_
    simp only [Act.put, List.setIfInBounds_toArray, List.set_cons_zero, List.set_cons_succ]
    refine lin_pure 56 (Op.call { callee := Callee.builtin Builtin.len, args := #[Operand.tmp 55], argTypes := #[22] }) 3 _ rfl rfl rfl rfl rfl (fun w0 => by unfold mkOp; go_simp; all_goals (with_reducible rfl)) ?_
    simp only [Act.put, List.setIfInBounds_toArray, List.set_cons_zero, List.set_cons_succ]
    refine lin_fork ?_ ?_
    focus
      refine lin_fn 54 12 #[Operand.tmp 52, Operand.tmp 53] #[22, 22] _ (xor_any _ _ a a _ A1 A1 (by rw [HNA.out]; omega)) rfl rfl rfl rfl Try.func12 (by kernel_rfl) (by kernel_rfl) (by go_simp) ?_
      rintro e w7 ⟨v7, rfl, hX, b7⟩
      rw [HA.out] at hX
      replace B := B.trans (b7.mono B.size)
      refine ⟨_, rfl, b7, ?_⟩
      simp only [Act.put, List.setIfInBounds_toArray, List.set_cons_zero, List.set_cons_succ]
      refine lin_made 57 (Op.makeSlice 22 (Operand.tmp 56) (Operand.tmp 56)) 22 (.slice (some ⟨w7.heap.size, 0, none⟩) na na) (w7.alloc (.cells (madeCells #[.int .u8 0] na) 5)) rfl rfl rfl rfl rfl (by unfold mkOp; go_simp) ((Below.refl _ _).alloc (Nat.le_refl _) _) ?_
      have hZ := Bs.zeros w7 na (by omega)
      replace hX := hX.below ((Below.refl _ _).alloc (Nat.le_refl _) (.cells (madeCells #[.int .u8 0] na) 5)) (Nat.le_refl _)
      replace B := B.alloc B.size (.cells (madeCells #[.int .u8 0] na) 5)
      simp only [Act.put, List.setIfInBounds_toArray, List.set_cons_zero, List.set_cons_succ]
    rotate_left
    focus
      refine lin_made 57 (Op.makeSlice 22 (Operand.tmp 56) (Operand.tmp 56)) 22 (.slice (some ⟨w6.heap.size, 0, none⟩) na na) (w6.alloc (.cells (madeCells #[.int .u8 0] na) 5)) rfl rfl rfl rfl rfl (by unfold mkOp; go_simp) ((Below.refl _ _).alloc (Nat.le_refl _) _) ?_
      have hZ := Bs.zeros w6 na (by omega)
      replace A1 := A1.below ((Below.refl _ _).alloc (Nat.le_refl _) (.cells (madeCells #[.int .u8 0] na) 5)) (Nat.le_refl _)
      replace B := B.alloc B.size (.cells (madeCells #[.int .u8 0] na) 5)
      simp only [Act.put, List.setIfInBounds_toArray, List.set_cons_zero, List.set_cons_succ]
      refine lin_fn 54 12 #[Operand.tmp 52, Operand.tmp 53] #[22, 22] _ (xor_any _ _ a a _ A1 A1 (by rw [HNA.out]; omega)) rfl rfl rfl rfl Try.func12 (by kernel_rfl) (by kernel_rfl) (by go_simp) ?_
      rintro e w7 ⟨v7, rfl, hX, b7⟩
      rw [HA.out] at hX
      replace B := B.trans (b7.mono B.size)
      replace hZ := hZ.below b7 (Nat.le_refl _)
      refine ⟨_, rfl, b7, ?_⟩
      simp only [Act.put, List.setIfInBounds_toArray, List.set_cons_zero, List.set_cons_succ]
    all_goals
      refine lin_fn 58 11 #[Operand.tmp 54, Operand.tmp 57] #[22, 22] _ (equal_same _ _ _ _ _ hX hZ rfl) rfl rfl rfl rfl Try.func11 (by kernel_rfl) (by kernel_rfl) (by go_simp) ?_
      rintro e w8 ⟨rfl, rfl⟩
      refine ⟨_, rfl, Below.refl _ _, ?_⟩
      simp only [Act.put, List.setIfInBounds_toArray, List.set_cons_zero, List.set_cons_succ]
      refine lin_pure 59 (Op.pick (Operand.tmp 51) (Operand.tmp 58) (Operand.const (Value.bool false))) 4 _ rfl rfl rfl rfl rfl (fun w0 => by unfold mkOp; go_simp; all_goals (with_reducible rfl)) ?_
      simp only [Act.put, List.setIfInBounds_toArray, List.set_cons_zero, List.set_cons_succ]
      refine lin_pure 60 (Op.move (Operand.tmp 59)) 4 _ rfl rfl rfl rfl rfl (fun w0 => by unfold mkOp; go_simp; all_goals (with_reducible rfl)) ?_
      simp only [Act.put, List.setIfInBounds_toArray, List.set_cons_zero, List.set_cons_succ]
      refine lin_fn 61 10 #[] #[] _ (awake_any _) rfl rfl rfl rfl Try.func10 (by kernel_rfl) (by kernel_rfl) (by go_simp) ?_
      rintro e w9 ⟨rfl, b9⟩
      replace B := B.trans (b9.mono B.size)
      refine ⟨_, rfl, b9, ?_⟩
      simp only [Act.put, List.setIfInBounds_toArray, List.set_cons_zero, List.set_cons_succ]
      refine lin_pure 62 (Op.pick (Operand.tmp 60) (Operand.tmp 61) (Operand.const (Value.bool false))) 4 _ rfl rfl rfl rfl rfl (fun w0 => by unfold mkOp; go_simp; all_goals (with_reducible rfl)) ?_
      simp only [Act.put, List.setIfInBounds_toArray, List.set_cons_zero, List.set_cons_succ]
      refine lin_pure 6 (Op.assign (Operand.tmp 62)) 4 _ rfl rfl rfl rfl rfl (fun w0 => by unfold mkOp; go_simp; all_goals (with_reducible rfl)) ?_
      simp only [Act.put, List.setIfInBounds_toArray, List.set_cons_zero, List.set_cons_succ]
      refine lin_end ?_
      go_wp2
      go_ret
      exact ⟨rfl, B⟩
end Go.Proofs.Ytbcmocijoklchaa
