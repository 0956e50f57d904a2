/- The document's Base and Shared. -/
import Derived.Test.YtnoppemclfnlcaaEdS
namespace Go.Proofs.Ytnoppemclfnlcaa
open Go.RowKit Go.Deep
set_option linter.unusedSimpArgs false
set_option linter.unusedVariables false

theorem ofL_nine : ofL [9] = 9 := by decide +kernel
theorem ladder_lt (u K : Nat) : ladder u K < p25 := mulP_lt _ _
theorem refBase_any (v : Value) (l : List UInt8) (w : World) (hv : Bs w v l) :
    Calls Try.prog 15 #[v] w fun e w' => ∃ v', e = .returned v' ∧ Owns w' w.heap.size v' (litB (ladder 9 (clampN l)) 32) ∧ Below w.heap.size w w' := by
  have hB : Bs (w.alloc (.cells #[.int .u8 9] 5)) (.slice (some ⟨w.heap.size, 0, none⟩) 1 1) [9] := Bs.one w 9
  have hb0 := (Below.refl w.heap.size w).alloc (Nat.le_refl _) (.cells #[.int .u8 9] 5)
  have hx := refX25519_any v _ l [9] (w.alloc (.cells #[.int .u8 9] 5)) (hv.below hb0 (Nat.le_refl _)) hB
  rw [ofL_nine] at hx
  have HX := Lib.hid hx
  have HB0 := Lib.hid hb0
  clear hB hb0 hx hv
  go_enter Try.func15, Try.ntmps15
  go_wp2_with (go_at_call 13; refine HX.out.mono ?_; rintro e w2 ⟨v2, rfl, hO, hb⟩)
  go_ret
  refine ⟨_, rfl, hO.lower (by simp), HB0.out.trans (hb.mono (by simp))⟩

/-- What Shared tells, and its error. -/
def shN (l0 l1 : List UInt8) : Nat := ladder (ofL l1) (clampN l0)
def shE (l0 l1 : List UInt8) : Int := if l0.length = 32 ∧ l1.length = 32 then if shN l0 l1 = 0 then 12 else 0 else 1
def shL (l0 l1 : List UInt8) : List UInt8 := if l0.length = 32 ∧ l1.length = 32 ∧ shN l0 l1 ≠ 0 then litB (shN l0 l1) 32 else []
theorem litB_nil : litB 0 32 = List.replicate 32 0 := by decide +kernel
theorem p25_zero_lt : 0 < p25 := p25_pos
theorem run_make32f (w : World) : (Instr.makeSlice 22 (.int .i64 32) (.int .i64 32)).run Try.prog w = .ok (.slice (some ⟨w.heap.size, 0, none⟩) 32 32) (w.alloc (.cells (madeCells #[.int .u8 0] 32) 5)) := by kernel_rfl
theorem made32_bs (w : World) : Bs (w.alloc (.cells (madeCells #[.int .u8 0] 32) 5)) (.slice (some ⟨w.heap.size, 0, none⟩) 32 32) (litB 0 32) := by
  have h := World.rowIs_made w (.int .u8 0) 32 5
  have g := Bs.of_rowIs h (litB 0 32) (by rw [litB_length]; exact Nat.le_refl _) (by unfold maxLen; omega) fun i hi => by
    rw [litB_at, Nat.zero_div]
    rfl
  rwa [litB_length] at g
set_option maxHeartbeats 1000000 in
theorem refShared_any (v0 v1 : Value) (l0 l1 : List UInt8) (w : World) (h0 : Bs w v0 l0) (h1 : Bs w v1 l1) :
    Calls Try.prog 17 #[v0, v1] w fun e w' => ∃ v, e = .returned (.tuple #[v, .int .i64 (shE l0 l1)]) ∧ Bs w' v (shL l0 l1) ∧ Below w.heap.size w w' := by
  have HX := Lib.hid fun w (h0 : Bs w v0 l0) (h1 : Bs w v1 l1) => refX25519_any v0 v1 l0 l1 w h0 h1
  have hnil : ∀ w : World, Bs w (.slice none 0 0) [] := fun w => (Owns.nil w 0).bs
  have HN := Lib.hid hnil
  have hr := Below.refl w.heap.size w
  obtain ⟨a0, n0, c0, rfl, e0, f0, g0, hB0⟩ := h0.shape
  obtain ⟨a1, n1, c1, rfl, e1, f1, g1, hB1⟩ := h1.shape
  have H0 := Lib.hid hB0
  have H1 := Lib.hid hB1
  clear h0 h1 hB0 hB1 hnil
  by_cases d0 : l0.length = 32
  · by_cases d1 : l1.length = 32
    · have hE : shE l0 l1 = if shN l0 l1 = 0 then 12 else 0 := by unfold shE; rw [if_pos ⟨d0, d1⟩]
      have hL : shL l0 l1 = if shN l0 l1 ≠ 0 then litB (shN l0 l1) 32 else [] := by
        unfold shL
        by_cases h : shN l0 l1 = 0
        · rw [if_neg (by simp [h]), if_neg (by simp [h])]
        · rw [if_pos ⟨d0, d1, h⟩, if_pos h]
      obtain ⟨s, hs⟩ := nat_var (shN l0 l1)
      have hsl : s < p25 := by rw [hs]; exact ladder_lt _ _
      have HS := Lib.hid hs
      have HSL := Lib.hid hsl
      rw [← hs] at hE hL
      have HE := Lib.hid hE
      have HL := Lib.hid hL
      have hn0 : n0 = 32 := by omega
      have hn1 : n1 = 32 := by omega
      subst hn0
      subst hn1
      clear hE hL hs hsl e0 e1 d0 d1
      go_enter Try.func17, Try.ntmps17
      go_wp2_with (go_at_call 13; refine (HX.out _ H0.out H1.out).mono ?_; rintro e w1 ⟨vs, rfl, hO, hb⟩)
      have hX0 := hO.bs
      rw [show ladder (ofL l1) (clampN l0) = s from HS.out.symm] at hX0
      have hX : Bs w1.drew vs (litB s 32) := hX0
      have B : Below w.heap.size w w1.drew := hb.drew
      clear hX0 hb hO HX
      refine wp_region_lint (.rd 0 (.rd 1 (.wr 2 (.rd 3 (.rd 4 .done))))) (by kernel_rfl) (by kernel_rfl) (by decide) (by kernel_rfl) (fun d _ _ _ _ h => by cases d <;> exact h) ?_
      refine lint_pure 18 (Op.move (Operand.tmp 6)) 22 _ rfl rfl rfl rfl rfl (fun w0 hb0 => by unfold mkOp; go_simp; all_goals (with_reducible rfl)) ?_
      simp only [Act.put, List.setIfInBounds_toArray, List.set_cons_zero, List.set_cons_succ, Nat.zero_add]
      refine lint_conv 19 (Operand.tmp 18) _ _ rfl rfl rfl rfl rfl hX ?_
      simp only [Act.put, List.setIfInBounds_toArray, List.set_cons_zero, List.set_cons_succ, Nat.zero_add]
      have hmk := run_make32f w1.drew
      refine stp_made 20 (Op.makeSlice 22 (Operand.const (Value.int IntKind.i64 32)) (Operand.const (Value.int IntKind.i64 32))) 22 (.slice (some ⟨w1.drew.heap.size, 0, none⟩) 32 32) (w1.drew.alloc (.cells (madeCells #[.int .u8 0] 32) 5)) rfl rfl rfl rfl rfl (by unfold mkOp; go_simp) ((Below.refl _ _).alloc (Nat.le_refl _) _) ?_
      have hZ := made32_bs w1.drew
      replace hX := hX.below ((Below.refl _ _).alloc (Nat.le_refl _) (.cells (madeCells #[.int .u8 0] 32) 5)) (Nat.le_refl _)
      replace B := B.alloc B.size (.cells (madeCells #[.int .u8 0] 32) 5)
      clear hmk
      simp only [Act.put, List.setIfInBounds_toArray, List.set_cons_zero, List.set_cons_succ, Nat.zero_add]
      refine lint_conv 21 (Operand.tmp 20) _ _ rfl rfl rfl rfl rfl hZ ?_
      simp only [Act.put, List.setIfInBounds_toArray, List.set_cons_zero, List.set_cons_succ, Nat.zero_add]
      by_cases hz : s = 0
      · refine lint_pure 22 (Op.binOp BinOp.eql 9 (Operand.tmp 19) (Operand.tmp 21) 9) 4 (.bool true) rfl rfl rfl rfl rfl (fun w0 hb0 => by exact exec_str_yes _ _ _ _ (by rw [hz]) rfl rfl) ?_
        simp only [Act.put, List.setIfInBounds_toArray, List.set_cons_zero, List.set_cons_succ, Nat.zero_add]
        refine lint_end ?_
        have HZ := Lib.hid hz
        clear hz
        go_wp2
        go_ret2
        exact ⟨.slice none 0 0, by rw [HE.out, if_pos HZ.out]; rfl, by rw [HL.out, if_neg (fun h => h HZ.out)]; exact HN.out _, B⟩
      · have HZ := Lib.hid hz
        refine lint_pure 22 (Op.binOp BinOp.eql 9 (Operand.tmp 19) (Operand.tmp 21) 9) 4 (.bool false) rfl rfl rfl rfl rfl (fun w0 hb0 => by exact exec_str_no _ _ _ _ (fun h => HZ.out (litB_inj HSL.out p25_pos h)) rfl rfl) ?_
        simp only [Act.put, List.setIfInBounds_toArray, List.set_cons_zero, List.set_cons_succ, Nat.zero_add]
        refine lint_end ?_
        clear hz
        go_wp2
        go_ret2
        exact ⟨vs, by rw [HE.out, if_neg HZ.out]; rfl, by rw [HL.out, if_pos HZ.out]; exact hX, B⟩
    · rw [show shE l0 l1 = 1 by unfold shE; rw [if_neg (fun h => d1 h.2)], show shL l0 l1 = [] by unfold shL; rw [if_neg (fun h => d1 h.2.1)]]
      have hn0 : (n0 : Int) = 32 := by omega
      have hn1 : ¬ (n1 : Int) = 32 := by omega
      clear e0 e1 d0 d1 HX H0 H1
      go_enter Try.func17, Try.ntmps17
      go_wp2
      go_ret2
      exact ⟨_, rfl, HN.out _, hr⟩
  · rw [show shE l0 l1 = 1 by unfold shE; rw [if_neg (fun h => d0 h.1)], show shL l0 l1 = [] by unfold shL; rw [if_neg (fun h => d0 h.1)]]
    have hn0 : ¬ (n0 : Int) = 32 := by omega
    clear e0 e1 d0 HX H0 H1
    go_enter Try.func17, Try.ntmps17
    go_wp2
    go_ret2
    exact ⟨_, rfl, HN.out _, hr⟩
end Go.Proofs.Ytnoppemclfnlcaa
