/- XSmall, walked. -/
import Derived.Test.YtnoppemclfnlcaaEdW
namespace Go.Proofs.Ytnoppemclfnlcaa
open Go.RowKit Go.Deep
set_option linter.unusedSimpArgs false
set_option linter.unusedVariables false

/-- The first i of 32 bytes are 255. -/
def fillL (i : Nat) : List UInt8 := (List.range 32).map fun j => if j < i then 255 else 0
theorem fillL_length (i : Nat) : (fillL i).length = 32 := by simp [fillL]
theorem fillL_zero : fillL 0 = List.replicate 32 0 := by decide +kernel
theorem fillL_set (i : Nat) (h : i < 32) : (fillL i).set i (UInt8.ofNat 255) = fillL (i + 1) := by
  refine List.ext_getElem (by simp [fillL]) fun j h1 h2 => ?_
  rw [List.getElem_set]
  simp only [fillL, List.getElem_map, List.getElem_range]
  by_cases e : i = j
  · subst e
    rw [if_pos rfl, if_pos (by omega)]
    rfl
  · rw [if_neg e]
    by_cases h3 : j < i
    · rw [if_pos h3, if_pos (by omega)]
    · rw [if_neg h3, if_neg (by omega)]
theorem small_1 : (List.replicate 32 (0 : UInt8)).set 0 (UInt8.ofNat 1) = litB 1 32 := by decide +kernel
theorem small_2 : ((fillL 32).set 0 (UInt8.ofNat 237)).set 31 (UInt8.ofNat 127) = litB p25 32 := by decide +kernel
theorem small_3 : (((fillL 32).set 0 (UInt8.ofNat 237)).set 0 (UInt8.ofNat 236)).set 31 (UInt8.ofNat 127) = litB (p25 - 1) 32 := by decide +kernel
theorem small_4 : (((fillL 32).set 0 (UInt8.ofNat 237)).set 0 (UInt8.ofNat 238)).set 31 (UInt8.ofNat 127) = litB (p25 + 1) 32 := by decide +kernel
theorem clampN_even (l : List UInt8) : clampN l % 2 = 0 := by
  obtain ⟨_, _, k, h⟩ := clampN_clamped l
  omega
theorem lad_1 (l : List UInt8) : ladder 1 (clampN l) = 0 := ladder_1 one_lt (Z.zero.lin1 1 (by decide)) (clampN_even l)
theorem lad_m1 (l : List UInt8) : ladder (p25 - 1) (clampN l) = 0 := by
  refine ladder_1 (by have := p25_two; omega) ?_ (clampN_even l)
  have h : Z (((p25 : Nat) : Int)) := ⟨1, by simp⟩
  have e : (((p25 - 1 : Nat)) : Int) = (p25 : Int) - 1 := by have := p25_two; omega
  rw [e]
  generalize ((p25 : Nat) : Int) = x at *
  exact h.lin1 (x - 2) (by grind)
theorem small_lad (l : List UInt8) (V : Nat) (h : V = 0 ∨ V = 1 ∨ V = p25 ∨ V = p25 - 1 ∨ V = p25 + 1) : ladder (ofL (litB V 32)) (clampN l) = 0 := by
  rcases h with rfl | rfl | rfl | rfl | rfl
  · rw [ofL_own 0 p25_pos]; exact ladder_0 _
  · rw [ofL_own 1 one_lt]; exact lad_1 l
  · rw [show ofL (litB p25 32) = 0 from ofL_over 0 (by decide)]; exact ladder_0 _
  · rw [ofL_own (p25 - 1) (by have := p25_two; omega)]; exact lad_m1 l
  · rw [ofL_over 1 (by decide)]; exact lad_1 l
theorem small_all (l P : List UInt8) (V : Nat) (h : V = 0 ∨ V = 1 ∨ V = p25 ∨ V = p25 - 1 ∨ V = p25 + 1) (hP : P = litB V 32) : shE l P = (if l.length = 32 then 12 else 1) ∧ shL l P = [] ∧ litB (ladder (ofL P) (clampN l)) 32 = List.replicate 32 0 := by
  subst hP
  have h1 := small_lad l V h
  have h2 : shN l (litB V 32) = 0 := h1
  refine ⟨?_, ?_, by rw [h1, litB_nil]⟩
  · unfold shE
    by_cases hl : l.length = 32
    · rw [if_pos ⟨hl, litB_length _ _⟩, if_pos h2, if_pos hl]
    · rw [if_neg (fun k => hl k.1), if_neg hl]
  · unfold shL
    rw [if_neg (fun k => k.2.2 h2)]
theorem small_shared (v0 v1 : Value) (l P : List UInt8) (w : World) (V : Nat) (h : V = 0 ∨ V = 1 ∨ V = p25 ∨ V = p25 - 1 ∨ V = p25 + 1) (hP : P = litB V 32) (hl : l.length = 32) (h0 : Bs w v0 l) (h1 : Bs w v1 P) :
    Calls Try.prog 16 #[v0, v1] w fun e w' => ∃ v, e = .returned (.tuple #[v, .int .i64 12]) ∧ Bs w' v [] ∧ Below w.heap.size w w' := by
  have g := shared_any v0 v1 l P w h0 h1
  obtain ⟨e1, e2, _⟩ := small_all l P V h hP
  rw [e1, e2, if_pos hl] at g
  exact g
set_option maxHeartbeats 8000000 in
set_option maxRecDepth 100000 in
theorem law_xSmall (w : World) (v0 : Value) (l0 : List UInt8) (h0 : Bs w v0 l0) (x1 : Int) (w1 : (Lit.int .i64 x1).wf = true) : Calls Try.prog 7 #[v0, .int .i64 x1] w fun e w' => e = .returned (.bool true) ∧ Below w.heap.size w w' := by
  obtain ⟨hx1, hy1⟩ := bd_i64 w1
  obtain ⟨ad0, n0, c0, rfl, e0, y0, z0, hB0⟩ := h0.shape
  by_cases d0 : n0 = 32
  · have hl0 : l0.length = 32 := by omega
    subst d0
    have HRD := Lib.hid fun w => round_any x1 5 w (by omega) (by omega) (by decide) (by decide)
    obtain ⟨r, hr⟩ : ∃ r : Int, r = x1 % 5 := ⟨_, rfl⟩
    have hr0 : 0 ≤ r := by rw [hr]; exact Int.emod_nonneg _ (by decide)
    have hr5 : r < 5 := by rw [hr]; exact Int.emod_lt_of_pos _ (by decide)
    rw [← hr] at HRD
    have HF0 := Lib.hid hB0
    have HL0 := Lib.hid hl0
    have om := made_own w 32 (by unfold maxLen; omega)
    have B0 := (Below.refl w.heap.size w).alloc (Nat.le_refl _) (.cells (madeCells #[.int .u8 0] 32) 5)
    have hmk : ∀ w : World, (Instr.makeSlice 22 (.int .i64 32) (.int .i64 32)).run Try.prog w = .ok (.slice (some ⟨w.heap.size, 0, none⟩) 32 32) (w.alloc (.cells (madeCells #[.int .u8 0] 32) 5)) :=
      fun w => run_make_row' (P := Try.prog) 22 5 (.int .u8 0) 1 Try.underlying22 Try.info5 rfl .i64 .i64 32 (by omega) (by omega) w
    have HGS : Hid (∀ wq : World, Below w.heap.size w wq → w.heap.size ≤ wq.heap.size) := Lib.hid fun wq h => h.size
    obtain ⟨gp, hgp⟩ := nat_var w.heap.size
    have HGP : Hid (w.heap.size ≤ gp) := Lib.hid (by omega)
    have HL32 : Hid ((List.replicate 32 (0 : UInt8)).length = 32) := Lib.hid List.length_replicate
    clear h0 hB0 e0 hl0 hr
    rcases (show r = 0 ∨ r = 1 ∨ r = 2 ∨ r = 3 ∨ r = 4 by omega) with rfl | rfl | rfl | rfl | rfl
    · skip
      rw [← litB_nil] at om
      obtain ⟨PL, hPL⟩ : ∃ P, P = litB (0) 32 := ⟨_, rfl⟩
      rw [← hPL] at om
      have f_s1 := om.bs
      have f_s0 := HF0.out.below B0 (Nat.le_refl _)
      have HSH := Lib.hid fun v0 v1 w h0 h1 => small_shared v0 v1 l0 PL w (0) (.inl rfl) hPL HL0.out h0 h1
      have HLD := Lib.hid (small_all l0 PL (0) (.inl rfl) hPL).2.2
      have Bx := B0
      clear om B0 hPL
      go_enter Try.func7, Try.ntmps7
      go_wp2_with (first
        | (go_at_call 18; refine (HRD.out _).mono ?_; rintro e w8 ⟨rfl, rfl⟩)
        | (go_at_call 16; refine (HSH.out _ _ _ f_s0 f_s1).mono ?_; rintro e w5 ⟨v5, rfl, f_s2, k5⟩
           replace f_s0 := f_s0.below k5 (Nat.le_refl _)
           replace f_s1 := f_s1.below k5 (Nat.le_refl _)
           have B5 := Bx.trans (k5.mono (HGS.out _ Bx))
           clear Bx k5 HSH))
      have B6 := B5.drew
      replace f_s0 := Bs.drew f_s0
      replace f_s1 := Bs.drew f_s1
      replace f_s2 := Bs.drew f_s2
      clear B5
      refine wp_region_po (Keep []) (Keep.refl _) (fun _ _ _ h1 h2 => h1.trans h2) (.rd 0 (.rd 1 (.rd 2 .done))) #[true, true, true, false, false, false, false, false, false, false, false, false, false, false, false, false, false, false, false, false] [3, 4, 5, 6, 7, 8, 9, 10, 11, 12, 13, 14, 15, 16, 17, 18, 19] [some 54, some 55, some 56, some 57, some 58, some 59, some 60, some 61, some 62, some 63, some 64, some 65, some 66, some 67, some 68, some 69, some 4] [[], [0], [1], [2], [3], [4], [4], [4, 5, 6], [4, 7], [4], [4, 9], [4, 8, 10], [4, 11], [7, 12], [13], [13, 14], [0, 1, 2, 3, 4, 5, 6, 7, 8, 9, 10, 11, 12, 13, 14, 15]] [(0, []), (1, [0]), (2, [1]), (3, [2]), (4, [3, 2]), (5, [4, 2]), (6, [2, 5]), (7, [6, 2]), (8, [7]), (9, [7]), (10, [8, 9, 7, 7]), (11, [10, 7]), (12, [7]), (13, [12, 7]), (14, [11, 13, 7]), (15, [7, 14]), (16, [15, 10]), (17, [16, 16]), (18, [16, 17]), (19, [18, 17, 0, 1, 2, 3, 4, 5, 6, 7, 8, 9, 10, 11, 12, 13, 14, 15, 16, 17, 18])] 7 (by kernel_rfl) (by kernel_rfl) (by decide) (by kernel_rfl) (by kernel_rfl) (by kernel_rfl) rfl (fun d _ _ _ _ h => by cases d <;> exact h) ?_
      refine lintz_pure 51 (Op.move (Operand.tmp 8)) 27 ((.int .i64 12)) rfl rfl rfl rfl rfl (fun w0 hb => by unfold mkOp; go_simp; all_goals (with_reducible rfl)) ?_
      simp only [Act.put, List.setIfInBounds_toArray, List.set_cons_zero, List.set_cons_succ]
      refine lintz_pure 52 (Op.binOp BinOp.eql 27 (Operand.tmp 51) (Operand.const (Value.int IntKind.i64 12)) 27) 4 (.bool true) rfl rfl rfl rfl rfl (fun w0 hb => by unfold mkOp; go_simp) ?_
      simp only [Act.put, List.setIfInBounds_toArray, List.set_cons_zero, List.set_cons_succ]
      refine lintz_pure 53 (Op.move (Operand.tmp 52)) 4 (.bool true) rfl rfl rfl rfl rfl (fun w0 hb => by unfold mkOp; go_simp; all_goals (with_reducible rfl)) ?_
      simp only [Act.put, List.setIfInBounds_toArray, List.set_cons_zero, List.set_cons_succ]
      refine lintz_leaf ?_
      have HWF : poWf [.val (v5), .val (.int .i64 ((([] : List UInt8)).length : Int)), .val (.bool true), .val (.bool true), .val (.bool true), .val (.slice ad0 32 c0), .val (.slice (some ⟨w.heap.size, 0, none⟩) 32 32), .own (litB (ladder (ofL (PL)) (clampN (l0))) 32) 17, .val (.string ⟨(litB (ladder (ofL (PL)) (clampN (l0))) 32).toArray⟩), .own (List.replicate 32 0) 17, .val (.string ⟨(List.replicate 32 0).toArray⟩), .val (.bool true), .val (.bool true), .val (.bool true), .val (.bool true), .val (.bool true), .val (.bool true)] [] = true := by kernel_rfl
      refine ⟨JG [.val (v5), .val (.int .i64 ((([] : List UInt8)).length : Int)), .val (.bool true), .val (.bool true), .val (.bool true), .val (.slice ad0 32 c0), .val (.slice (some ⟨w.heap.size, 0, none⟩) 32 32), .own (litB (ladder (ofL (PL)) (clampN (l0))) 32) 17, .val (.string ⟨(litB (ladder (ofL (PL)) (clampN (l0))) 32).toArray⟩), .own (List.replicate 32 0) 17, .val (.string ⟨(List.replicate 32 0).toArray⟩), .val (.bool true), .val (.bool true), .val (.bool true), .val (.bool true), .val (.bool true), .val (.bool true)] [] _, JG.start (Nat.le_refl _) (fun i hi => absurd hi (Nat.not_lt_zero _)), fun m gz wa p az hp hm hmp hcl hdn hE hJ hS hO => ?_, fun gz wa hE hJ => ?_⟩
      · rcases (show p = 0 ∨ p = 1 ∨ p = 2 ∨ p = 3 ∨ p = 4 ∨ p = 5 ∨ p = 6 ∨ p = 7 ∨ p = 8 ∨ p = 9 ∨ p = 10 ∨ p = 11 ∨ p = 12 ∨ p = 13 ∨ p = 14 ∨ p = 15 ∨ p = 16 by have h9 : p < 17 := hp; omega) with rfl | rfl | rfl | rfl | rfl | rfl | rfl | rfl | rfl | rfl | rfl | rfl | rfl | rfl | rfl | rfl | rfl
        · have e53 : az.eval (.tmp 53) = .bool true := hO 53 rfl
          have e7 : az.eval (.tmp 7) = v5 := hO 7 rfl
          exact po_run 54 (Op.move (Operand.tmp 7)) _ HWF hJ rfl hE rfl rfl rfl rfl rfl (wanted_of rfl rfl e53) (by first | (simp only [execOp, mkOp, eval_const, e7]; done) | (simp only [execOp, mkOp, eval_const, e7]; go_simp))
        · have e53 : az.eval (.tmp 53) = .bool true := hO 53 rfl
          have e54 := (hS 0 54 rfl (hdn 0 (by decide)) (Nat.le_of_ble_eq_true rfl)).trans (hJ.says (hdn 0 (by decide)) rfl)
          exact po_run 55 (Op.call { callee := Callee.builtin Builtin.len, args := #[Operand.tmp 54], argTypes := #[22] }) 3 HWF hJ rfl hE rfl rfl rfl rfl rfl (wanted_of rfl rfl e53) (exec_blen _ _ e54 (Bs.below f_s2 (Keep.nil hE) (Nat.le_refl _)))
        · have e53 : az.eval (.tmp 53) = .bool true := hO 53 rfl
          have e55 := (hS 1 55 rfl (hdn 1 (by decide)) (Nat.le_of_ble_eq_true rfl)).trans (hJ.says (hdn 1 (by decide)) rfl)
          exact po_run 56 (Op.binOp BinOp.eql 3 (Operand.tmp 55) (Operand.const (Value.int IntKind.i64 0)) 3) _ HWF hJ rfl hE rfl rfl rfl rfl rfl (wanted_of rfl rfl e53) (by simp only [execOp, mkOp, eval_const, e55]; (simp only [List.length_nil]; go_simp))
        · have e53 : az.eval (.tmp 53) = .bool true := hO 53 rfl
          have e56 := (hS 2 56 rfl (hdn 2 (by decide)) (Nat.le_of_ble_eq_true rfl)).trans (hJ.says (hdn 2 (by decide)) rfl)
          exact po_run 57 (Op.pick (Operand.tmp 53) (Operand.tmp 56) (Operand.const (Value.bool false))) _ HWF hJ rfl hE rfl rfl rfl rfl rfl rfl (by first | (simp only [execOp, mkOp, eval_const, e53, e56]; done) | (simp only [execOp, mkOp, eval_const, e53, e56]; go_simp))
        · have e57 := (hS 3 57 rfl (hdn 3 (by decide)) (Nat.le_of_ble_eq_true rfl)).trans (hJ.says (hdn 3 (by decide)) rfl)
          exact po_run 58 (Op.move (Operand.tmp 57)) _ HWF hJ rfl hE rfl rfl rfl rfl rfl rfl (by first | (simp only [execOp, mkOp, eval_const, e57]; done) | (simp only [execOp, mkOp, eval_const, e57]; go_simp))
        · have e58 := (hS 4 58 rfl (hdn 4 (by decide)) (Nat.le_of_ble_eq_true rfl)).trans (hJ.says (hdn 4 (by decide)) rfl)
          have e0 : az.eval (.tmp 0) = .slice ad0 32 c0 := hO 0 rfl
          exact po_run 59 (Op.move (Operand.tmp 0)) _ HWF hJ rfl hE rfl rfl rfl rfl rfl (wanted_of rfl rfl e58) (by first | (simp only [execOp, mkOp, eval_const, e0]; done) | (simp only [execOp, mkOp, eval_const, e0]; go_simp))
        · have e58 := (hS 4 58 rfl (hdn 4 (by decide)) (Nat.le_of_ble_eq_true rfl)).trans (hJ.says (hdn 4 (by decide)) rfl)
          have e5 : az.eval (.tmp 5) = .slice (some ⟨w.heap.size, 0, none⟩) 32 32 := hO 5 rfl
          exact po_run 60 (Op.move (Operand.tmp 5)) _ HWF hJ rfl hE rfl rfl rfl rfl rfl (wanted_of rfl rfl e58) (by first | (simp only [execOp, mkOp, eval_const, e5]; done) | (simp only [execOp, mkOp, eval_const, e5]; go_simp))
        · have e58 := (hS 4 58 rfl (hdn 4 (by decide)) (Nat.le_of_ble_eq_true rfl)).trans (hJ.says (hdn 4 (by decide)) rfl)
          have e59 := (hS 5 59 rfl (hdn 5 (by decide)) (Nat.le_of_ble_eq_true rfl)).trans (hJ.says (hdn 5 (by decide)) rfl)
          have e60 := (hS 6 60 rfl (hdn 6 (by decide)) (Nat.le_of_ble_eq_true rfl)).trans (hJ.says (hdn 6 (by decide)) rfl)
          exact po_owns 61 12 #[Operand.tmp 59, Operand.tmp 60] #[22, 22] _ HWF hJ rfl hE (mult_any _ _ _ _ _ (Bs.below f_s0 (Keep.nil hE) (Nat.le_refl _)) (Bs.below f_s1 (Keep.nil hE) (Nat.le_refl _))) rfl rfl rfl rfl (wanted_of rfl rfl e58) Try.func12 (by kernel_rfl) (by kernel_rfl) (by simp only [List.map_toArray, List.map_cons, List.map_nil, eval_const, eval_func, e59, e60] <;> rfl)
        · have e58 := (hS 4 58 rfl (hdn 4 (by decide)) (Nat.le_of_ble_eq_true rfl)).trans (hJ.says (hdn 4 (by decide)) rfl)
          have e61 := hS 7 61 rfl (hdn 7 (by decide)) (Nat.le_of_ble_eq_true rfl)
          exact po_run 62 (Op.convert 22 9 (Operand.tmp 61)) 9 HWF hJ rfl hE rfl rfl rfl rfl rfl (wanted_of rfl rfl e58) (exec_str _ _ _ e61 (hJ.own (hdn 7 (by decide)) rfl (po_never hm (Nat.le_refl _))).bs)
        · have e58 := (hS 4 58 rfl (hdn 4 (by decide)) (Nat.le_of_ble_eq_true rfl)).trans (hJ.says (hdn 4 (by decide)) rfl)
          exact po_made 63 (Op.makeSlice 22 (Operand.const (Value.int IntKind.i64 32)) (Operand.const (Value.int IntKind.i64 32))) 22 HWF hJ rfl hE rfl rfl rfl rfl rfl (wanted_of rfl rfl e58) (exec_make32 _ _ _) ((Below.refl _ _).alloc (Nat.le_refl _) _) (made_own _ 32 (by unfold maxLen; omega))
        · have e58 := (hS 4 58 rfl (hdn 4 (by decide)) (Nat.le_of_ble_eq_true rfl)).trans (hJ.says (hdn 4 (by decide)) rfl)
          have e63 := hS 9 63 rfl (hdn 9 (by decide)) (Nat.le_of_ble_eq_true rfl)
          exact po_run 64 (Op.convert 22 9 (Operand.tmp 63)) 9 HWF hJ rfl hE rfl rfl rfl rfl rfl (wanted_of rfl rfl e58) (exec_str _ _ _ e63 (hJ.own (hdn 9 (by decide)) rfl (po_never hm (Nat.le_refl _))).bs)
        · have e58 := (hS 4 58 rfl (hdn 4 (by decide)) (Nat.le_of_ble_eq_true rfl)).trans (hJ.says (hdn 4 (by decide)) rfl)
          have e62 := (hS 8 62 rfl (hdn 8 (by decide)) (Nat.le_of_ble_eq_true rfl)).trans (hJ.says (hdn 8 (by decide)) rfl)
          have e64 := (hS 10 64 rfl (hdn 10 (by decide)) (Nat.le_of_ble_eq_true rfl)).trans (hJ.says (hdn 10 (by decide)) rfl)
          exact po_run 65 (Op.binOp BinOp.eql 9 (Operand.tmp 62) (Operand.tmp 64) 9) _ HWF hJ rfl hE rfl rfl rfl rfl rfl (wanted_of rfl rfl e58) (exec_str_yes _ _ _ _ (HLD.out) e62 e64)
        · have e58 := (hS 4 58 rfl (hdn 4 (by decide)) (Nat.le_of_ble_eq_true rfl)).trans (hJ.says (hdn 4 (by decide)) rfl)
          have e65 := (hS 11 65 rfl (hdn 11 (by decide)) (Nat.le_of_ble_eq_true rfl)).trans (hJ.says (hdn 11 (by decide)) rfl)
          exact po_run 66 (Op.pick (Operand.tmp 58) (Operand.tmp 65) (Operand.const (Value.bool false))) _ HWF hJ rfl hE rfl rfl rfl rfl rfl rfl (by first | (simp only [execOp, mkOp, eval_const, e58, e65]; done) | (simp only [execOp, mkOp, eval_const, e58, e65]; go_simp))
        · have e66 := (hS 12 66 rfl (hdn 12 (by decide)) (Nat.le_of_ble_eq_true rfl)).trans (hJ.says (hdn 12 (by decide)) rfl)
          exact po_run 67 (Op.move (Operand.tmp 66)) _ HWF hJ rfl hE rfl rfl rfl rfl rfl rfl (by first | (simp only [execOp, mkOp, eval_const, e66]; done) | (simp only [execOp, mkOp, eval_const, e66]; go_simp))
        · have e67 := (hS 13 67 rfl (hdn 13 (by decide)) (Nat.le_of_ble_eq_true rfl)).trans (hJ.says (hdn 13 (by decide)) rfl)
          exact po_call 68 9 #[] #[] _ HWF hJ rfl hE (awake6_any _) rfl rfl rfl rfl (wanted_of rfl rfl e67) Try.func9 (by kernel_rfl) (by kernel_rfl) (by simp only [List.map_toArray, List.map_cons, List.map_nil, eval_const, eval_func] <;> rfl)
        · have e67 := (hS 13 67 rfl (hdn 13 (by decide)) (Nat.le_of_ble_eq_true rfl)).trans (hJ.says (hdn 13 (by decide)) rfl)
          have e68 := (hS 14 68 rfl (hdn 14 (by decide)) (Nat.le_of_ble_eq_true rfl)).trans (hJ.says (hdn 14 (by decide)) rfl)
          exact po_run 69 (Op.pick (Operand.tmp 67) (Operand.tmp 68) (Operand.const (Value.bool false))) _ HWF hJ rfl hE rfl rfl rfl rfl rfl rfl (by first | (simp only [execOp, mkOp, eval_const, e67, e68]; done) | (simp only [execOp, mkOp, eval_const, e67, e68]; go_simp))
        · have e69 := (hS 15 69 rfl (hdn 15 (by decide)) (Nat.le_of_ble_eq_true rfl)).trans (hJ.says (hdn 15 (by decide)) rfl)
          exact po_run 4 (Op.assign (Operand.tmp 69)) _ HWF hJ rfl hE rfl rfl rfl rfl rfl rfl (by first | (simp only [execOp, mkOp, eval_const, e69]; done) | (simp only [execOp, mkOp, eval_const, e69]; go_simp))
      · have q0 := hJ.told 0 (by decide) rfl
        have q1 := hJ.told 1 (by decide) rfl
        have q2 := hJ.told 2 (by decide) rfl
        have q3 := hJ.told 3 (by decide) rfl
        have q4 := hJ.told 4 (by decide) rfl
        have q5 := hJ.told 5 (by decide) rfl
        have q6 := hJ.told 6 (by decide) rfl
        have q8 := hJ.told 8 (by decide) rfl
        have q10 := hJ.told 10 (by decide) rfl
        have q11 := hJ.told 11 (by decide) rfl
        have q12 := hJ.told 12 (by decide) rfl
        have q13 := hJ.told 13 (by decide) rfl
        have q14 := hJ.told 14 (by decide) rfl
        have q15 := hJ.told 15 (by decide) rfl
        have q16 := hJ.told 16 (by decide) rfl
        show PoEnd _ (Act.put (Act.put (Act.put (Act.put (Act.put (Act.put (Act.put (Act.put (Act.put (Act.put (Act.put (Act.put (Act.put (Act.put (Act.put (Act.put (Act.put _ (some 54) (gz 0)) (some 55) (gz 1)) (some 56) (gz 2)) (some 57) (gz 3)) (some 58) (gz 4)) (some 59) (gz 5)) (some 60) (gz 6)) (some 61) (gz 7)) (some 62) (gz 8)) (some 63) (gz 9)) (some 64) (gz 10)) (some 65) (gz 11)) (some 66) (gz 12)) (some 67) (gz 13)) (some 68) (gz 14)) (some 69) (gz 15)) (some 4) (gz 16)) wa
        rw [q0, q1, q2, q3, q4, q5, q6, q8, q10, q11, q12, q13, q14, q15, q16]
        simp only [Act.put, List.setIfInBounds_toArray, List.set_cons_zero, List.set_cons_succ]
        refine po_end ?_
        replace f_s0 := Bs.below f_s0 (Keep.nil hE) (Nat.le_refl _)
        replace f_s1 := Bs.below f_s1 (Keep.nil hE) (Nat.le_refl _)
        replace f_s2 := Bs.below f_s2 (Keep.nil hE) (Nat.le_refl _)
        have B7 := hE.below B6 (HGS.out _ B6) rfl
        clear B6 hE hJ HWF q0 q1 q2 q3 q4 q5 q6 q8 q10 q11 q12 q13 q14 q15 q16
        go_wp2
        go_ret
        exact ⟨rfl, B7⟩
    · go_enter Try.func7, Try.ntmps7
      go_wp2_with (first
        | (go_at_call 18; refine (HRD.out _).mono ?_; rintro e w8 ⟨rfl, rfl⟩)
        | (refine wpList_store_byte rfl (.tmp 19) (.const (.int .u8 1)) rfl 0 1 om HL32.out.symm (Nat.le_refl _) (by rw [HL32.out]; decide) rfl rfl (by decide) ?_; intro w2 o2 gs
           have B1 := B0.grown gs (HGS.out _ B0) (by intro k hk; cases hk; exact Nat.le_refl _)
           rw [small_1] at o2
           obtain ⟨PL, hPL⟩ : ∃ P, P = litB (1) 32 := ⟨_, rfl⟩
           rw [← hPL] at o2
           have f_s1 := o2.bs
           have f_s0 := HF0.out.below B1 (Nat.le_refl _)
           have HSH := Lib.hid fun v0 v1 w h0 h1 => small_shared v0 v1 l0 PL w (1) (.inr (.inl rfl)) hPL HL0.out h0 h1
           have HLD := Lib.hid (small_all l0 PL (1) (.inr (.inl rfl)) hPL).2.2
           have Bx := B1
           clear o2 B1 hPL
           clear gs om B0)
        | (go_at_call 16; refine (HSH.out _ _ _ f_s0 f_s1).mono ?_; rintro e w5 ⟨v5, rfl, f_s2, k5⟩
           replace f_s0 := f_s0.below k5 (Nat.le_refl _)
           replace f_s1 := f_s1.below k5 (Nat.le_refl _)
           have B5 := Bx.trans (k5.mono (HGS.out _ Bx))
           clear Bx k5 HSH))
      have B6 := B5.drew
      replace f_s0 := Bs.drew f_s0
      replace f_s1 := Bs.drew f_s1
      replace f_s2 := Bs.drew f_s2
      clear B5
      refine wp_region_po (Keep []) (Keep.refl _) (fun _ _ _ h1 h2 => h1.trans h2) (.rd 0 (.rd 1 (.rd 2 .done))) #[true, true, true, false, false, false, false, false, false, false, false, false, false, false, false, false, false, false, false, false] [3, 4, 5, 6, 7, 8, 9, 10, 11, 12, 13, 14, 15, 16, 17, 18, 19] [some 54, some 55, some 56, some 57, some 58, some 59, some 60, some 61, some 62, some 63, some 64, some 65, some 66, some 67, some 68, some 69, some 4] [[], [0], [1], [2], [3], [4], [4], [4, 5, 6], [4, 7], [4], [4, 9], [4, 8, 10], [4, 11], [7, 12], [13], [13, 14], [0, 1, 2, 3, 4, 5, 6, 7, 8, 9, 10, 11, 12, 13, 14, 15]] [(0, []), (1, [0]), (2, [1]), (3, [2]), (4, [3, 2]), (5, [4, 2]), (6, [2, 5]), (7, [6, 2]), (8, [7]), (9, [7]), (10, [8, 9, 7, 7]), (11, [10, 7]), (12, [7]), (13, [12, 7]), (14, [11, 13, 7]), (15, [7, 14]), (16, [15, 10]), (17, [16, 16]), (18, [16, 17]), (19, [18, 17, 0, 1, 2, 3, 4, 5, 6, 7, 8, 9, 10, 11, 12, 13, 14, 15, 16, 17, 18])] 7 (by kernel_rfl) (by kernel_rfl) (by decide) (by kernel_rfl) (by kernel_rfl) (by kernel_rfl) rfl (fun d _ _ _ _ h => by cases d <;> exact h) ?_
      refine lintz_pure 51 (Op.move (Operand.tmp 8)) 27 ((.int .i64 12)) rfl rfl rfl rfl rfl (fun w0 hb => by unfold mkOp; go_simp; all_goals (with_reducible rfl)) ?_
      simp only [Act.put, List.setIfInBounds_toArray, List.set_cons_zero, List.set_cons_succ]
      refine lintz_pure 52 (Op.binOp BinOp.eql 27 (Operand.tmp 51) (Operand.const (Value.int IntKind.i64 12)) 27) 4 (.bool true) rfl rfl rfl rfl rfl (fun w0 hb => by unfold mkOp; go_simp) ?_
      simp only [Act.put, List.setIfInBounds_toArray, List.set_cons_zero, List.set_cons_succ]
      refine lintz_pure 53 (Op.move (Operand.tmp 52)) 4 (.bool true) rfl rfl rfl rfl rfl (fun w0 hb => by unfold mkOp; go_simp; all_goals (with_reducible rfl)) ?_
      simp only [Act.put, List.setIfInBounds_toArray, List.set_cons_zero, List.set_cons_succ]
      refine lintz_leaf ?_
      have HWF : poWf [.val (v5), .val (.int .i64 ((([] : List UInt8)).length : Int)), .val (.bool true), .val (.bool true), .val (.bool true), .val (.slice ad0 32 c0), .val (.slice (some ⟨w.heap.size, 0, none⟩) 32 32), .own (litB (ladder (ofL (PL)) (clampN (l0))) 32) 17, .val (.string ⟨(litB (ladder (ofL (PL)) (clampN (l0))) 32).toArray⟩), .own (List.replicate 32 0) 17, .val (.string ⟨(List.replicate 32 0).toArray⟩), .val (.bool true), .val (.bool true), .val (.bool true), .val (.bool true), .val (.bool true), .val (.bool true)] [] = true := by kernel_rfl
      refine ⟨JG [.val (v5), .val (.int .i64 ((([] : List UInt8)).length : Int)), .val (.bool true), .val (.bool true), .val (.bool true), .val (.slice ad0 32 c0), .val (.slice (some ⟨w.heap.size, 0, none⟩) 32 32), .own (litB (ladder (ofL (PL)) (clampN (l0))) 32) 17, .val (.string ⟨(litB (ladder (ofL (PL)) (clampN (l0))) 32).toArray⟩), .own (List.replicate 32 0) 17, .val (.string ⟨(List.replicate 32 0).toArray⟩), .val (.bool true), .val (.bool true), .val (.bool true), .val (.bool true), .val (.bool true), .val (.bool true)] [] _, JG.start (Nat.le_refl _) (fun i hi => absurd hi (Nat.not_lt_zero _)), fun m gz wa p az hp hm hmp hcl hdn hE hJ hS hO => ?_, fun gz wa hE hJ => ?_⟩
      · rcases (show p = 0 ∨ p = 1 ∨ p = 2 ∨ p = 3 ∨ p = 4 ∨ p = 5 ∨ p = 6 ∨ p = 7 ∨ p = 8 ∨ p = 9 ∨ p = 10 ∨ p = 11 ∨ p = 12 ∨ p = 13 ∨ p = 14 ∨ p = 15 ∨ p = 16 by have h9 : p < 17 := hp; omega) with rfl | rfl | rfl | rfl | rfl | rfl | rfl | rfl | rfl | rfl | rfl | rfl | rfl | rfl | rfl | rfl | rfl
        · have e53 : az.eval (.tmp 53) = .bool true := hO 53 rfl
          have e7 : az.eval (.tmp 7) = v5 := hO 7 rfl
          exact po_run 54 (Op.move (Operand.tmp 7)) _ HWF hJ rfl hE rfl rfl rfl rfl rfl (wanted_of rfl rfl e53) (by first | (simp only [execOp, mkOp, eval_const, e7]; done) | (simp only [execOp, mkOp, eval_const, e7]; go_simp))
        · have e53 : az.eval (.tmp 53) = .bool true := hO 53 rfl
          have e54 := (hS 0 54 rfl (hdn 0 (by decide)) (Nat.le_of_ble_eq_true rfl)).trans (hJ.says (hdn 0 (by decide)) rfl)
          exact po_run 55 (Op.call { callee := Callee.builtin Builtin.len, args := #[Operand.tmp 54], argTypes := #[22] }) 3 HWF hJ rfl hE rfl rfl rfl rfl rfl (wanted_of rfl rfl e53) (exec_blen _ _ e54 (Bs.below f_s2 (Keep.nil hE) (Nat.le_refl _)))
        · have e53 : az.eval (.tmp 53) = .bool true := hO 53 rfl
          have e55 := (hS 1 55 rfl (hdn 1 (by decide)) (Nat.le_of_ble_eq_true rfl)).trans (hJ.says (hdn 1 (by decide)) rfl)
          exact po_run 56 (Op.binOp BinOp.eql 3 (Operand.tmp 55) (Operand.const (Value.int IntKind.i64 0)) 3) _ HWF hJ rfl hE rfl rfl rfl rfl rfl (wanted_of rfl rfl e53) (by simp only [execOp, mkOp, eval_const, e55]; (simp only [List.length_nil]; go_simp))
        · have e53 : az.eval (.tmp 53) = .bool true := hO 53 rfl
          have e56 := (hS 2 56 rfl (hdn 2 (by decide)) (Nat.le_of_ble_eq_true rfl)).trans (hJ.says (hdn 2 (by decide)) rfl)
          exact po_run 57 (Op.pick (Operand.tmp 53) (Operand.tmp 56) (Operand.const (Value.bool false))) _ HWF hJ rfl hE rfl rfl rfl rfl rfl rfl (by first | (simp only [execOp, mkOp, eval_const, e53, e56]; done) | (simp only [execOp, mkOp, eval_const, e53, e56]; go_simp))
        · have e57 := (hS 3 57 rfl (hdn 3 (by decide)) (Nat.le_of_ble_eq_true rfl)).trans (hJ.says (hdn 3 (by decide)) rfl)
          exact po_run 58 (Op.move (Operand.tmp 57)) _ HWF hJ rfl hE rfl rfl rfl rfl rfl rfl (by first | (simp only [execOp, mkOp, eval_const, e57]; done) | (simp only [execOp, mkOp, eval_const, e57]; go_simp))
        · have e58 := (hS 4 58 rfl (hdn 4 (by decide)) (Nat.le_of_ble_eq_true rfl)).trans (hJ.says (hdn 4 (by decide)) rfl)
          have e0 : az.eval (.tmp 0) = .slice ad0 32 c0 := hO 0 rfl
          exact po_run 59 (Op.move (Operand.tmp 0)) _ HWF hJ rfl hE rfl rfl rfl rfl rfl (wanted_of rfl rfl e58) (by first | (simp only [execOp, mkOp, eval_const, e0]; done) | (simp only [execOp, mkOp, eval_const, e0]; go_simp))
        · have e58 := (hS 4 58 rfl (hdn 4 (by decide)) (Nat.le_of_ble_eq_true rfl)).trans (hJ.says (hdn 4 (by decide)) rfl)
          have e5 : az.eval (.tmp 5) = .slice (some ⟨w.heap.size, 0, none⟩) 32 32 := hO 5 rfl
          exact po_run 60 (Op.move (Operand.tmp 5)) _ HWF hJ rfl hE rfl rfl rfl rfl rfl (wanted_of rfl rfl e58) (by first | (simp only [execOp, mkOp, eval_const, e5]; done) | (simp only [execOp, mkOp, eval_const, e5]; go_simp))
        · have e58 := (hS 4 58 rfl (hdn 4 (by decide)) (Nat.le_of_ble_eq_true rfl)).trans (hJ.says (hdn 4 (by decide)) rfl)
          have e59 := (hS 5 59 rfl (hdn 5 (by decide)) (Nat.le_of_ble_eq_true rfl)).trans (hJ.says (hdn 5 (by decide)) rfl)
          have e60 := (hS 6 60 rfl (hdn 6 (by decide)) (Nat.le_of_ble_eq_true rfl)).trans (hJ.says (hdn 6 (by decide)) rfl)
          exact po_owns 61 12 #[Operand.tmp 59, Operand.tmp 60] #[22, 22] _ HWF hJ rfl hE (mult_any _ _ _ _ _ (Bs.below f_s0 (Keep.nil hE) (Nat.le_refl _)) (Bs.below f_s1 (Keep.nil hE) (Nat.le_refl _))) rfl rfl rfl rfl (wanted_of rfl rfl e58) Try.func12 (by kernel_rfl) (by kernel_rfl) (by simp only [List.map_toArray, List.map_cons, List.map_nil, eval_const, eval_func, e59, e60] <;> rfl)
        · have e58 := (hS 4 58 rfl (hdn 4 (by decide)) (Nat.le_of_ble_eq_true rfl)).trans (hJ.says (hdn 4 (by decide)) rfl)
          have e61 := hS 7 61 rfl (hdn 7 (by decide)) (Nat.le_of_ble_eq_true rfl)
          exact po_run 62 (Op.convert 22 9 (Operand.tmp 61)) 9 HWF hJ rfl hE rfl rfl rfl rfl rfl (wanted_of rfl rfl e58) (exec_str _ _ _ e61 (hJ.own (hdn 7 (by decide)) rfl (po_never hm (Nat.le_refl _))).bs)
        · have e58 := (hS 4 58 rfl (hdn 4 (by decide)) (Nat.le_of_ble_eq_true rfl)).trans (hJ.says (hdn 4 (by decide)) rfl)
          exact po_made 63 (Op.makeSlice 22 (Operand.const (Value.int IntKind.i64 32)) (Operand.const (Value.int IntKind.i64 32))) 22 HWF hJ rfl hE rfl rfl rfl rfl rfl (wanted_of rfl rfl e58) (exec_make32 _ _ _) ((Below.refl _ _).alloc (Nat.le_refl _) _) (made_own _ 32 (by unfold maxLen; omega))
        · have e58 := (hS 4 58 rfl (hdn 4 (by decide)) (Nat.le_of_ble_eq_true rfl)).trans (hJ.says (hdn 4 (by decide)) rfl)
          have e63 := hS 9 63 rfl (hdn 9 (by decide)) (Nat.le_of_ble_eq_true rfl)
          exact po_run 64 (Op.convert 22 9 (Operand.tmp 63)) 9 HWF hJ rfl hE rfl rfl rfl rfl rfl (wanted_of rfl rfl e58) (exec_str _ _ _ e63 (hJ.own (hdn 9 (by decide)) rfl (po_never hm (Nat.le_refl _))).bs)
        · have e58 := (hS 4 58 rfl (hdn 4 (by decide)) (Nat.le_of_ble_eq_true rfl)).trans (hJ.says (hdn 4 (by decide)) rfl)
          have e62 := (hS 8 62 rfl (hdn 8 (by decide)) (Nat.le_of_ble_eq_true rfl)).trans (hJ.says (hdn 8 (by decide)) rfl)
          have e64 := (hS 10 64 rfl (hdn 10 (by decide)) (Nat.le_of_ble_eq_true rfl)).trans (hJ.says (hdn 10 (by decide)) rfl)
          exact po_run 65 (Op.binOp BinOp.eql 9 (Operand.tmp 62) (Operand.tmp 64) 9) _ HWF hJ rfl hE rfl rfl rfl rfl rfl (wanted_of rfl rfl e58) (exec_str_yes _ _ _ _ (HLD.out) e62 e64)
        · have e58 := (hS 4 58 rfl (hdn 4 (by decide)) (Nat.le_of_ble_eq_true rfl)).trans (hJ.says (hdn 4 (by decide)) rfl)
          have e65 := (hS 11 65 rfl (hdn 11 (by decide)) (Nat.le_of_ble_eq_true rfl)).trans (hJ.says (hdn 11 (by decide)) rfl)
          exact po_run 66 (Op.pick (Operand.tmp 58) (Operand.tmp 65) (Operand.const (Value.bool false))) _ HWF hJ rfl hE rfl rfl rfl rfl rfl rfl (by first | (simp only [execOp, mkOp, eval_const, e58, e65]; done) | (simp only [execOp, mkOp, eval_const, e58, e65]; go_simp))
        · have e66 := (hS 12 66 rfl (hdn 12 (by decide)) (Nat.le_of_ble_eq_true rfl)).trans (hJ.says (hdn 12 (by decide)) rfl)
          exact po_run 67 (Op.move (Operand.tmp 66)) _ HWF hJ rfl hE rfl rfl rfl rfl rfl rfl (by first | (simp only [execOp, mkOp, eval_const, e66]; done) | (simp only [execOp, mkOp, eval_const, e66]; go_simp))
        · have e67 := (hS 13 67 rfl (hdn 13 (by decide)) (Nat.le_of_ble_eq_true rfl)).trans (hJ.says (hdn 13 (by decide)) rfl)
          exact po_call 68 9 #[] #[] _ HWF hJ rfl hE (awake6_any _) rfl rfl rfl rfl (wanted_of rfl rfl e67) Try.func9 (by kernel_rfl) (by kernel_rfl) (by simp only [List.map_toArray, List.map_cons, List.map_nil, eval_const, eval_func] <;> rfl)
        · have e67 := (hS 13 67 rfl (hdn 13 (by decide)) (Nat.le_of_ble_eq_true rfl)).trans (hJ.says (hdn 13 (by decide)) rfl)
          have e68 := (hS 14 68 rfl (hdn 14 (by decide)) (Nat.le_of_ble_eq_true rfl)).trans (hJ.says (hdn 14 (by decide)) rfl)
          exact po_run 69 (Op.pick (Operand.tmp 67) (Operand.tmp 68) (Operand.const (Value.bool false))) _ HWF hJ rfl hE rfl rfl rfl rfl rfl rfl (by first | (simp only [execOp, mkOp, eval_const, e67, e68]; done) | (simp only [execOp, mkOp, eval_const, e67, e68]; go_simp))
        · have e69 := (hS 15 69 rfl (hdn 15 (by decide)) (Nat.le_of_ble_eq_true rfl)).trans (hJ.says (hdn 15 (by decide)) rfl)
          exact po_run 4 (Op.assign (Operand.tmp 69)) _ HWF hJ rfl hE rfl rfl rfl rfl rfl rfl (by first | (simp only [execOp, mkOp, eval_const, e69]; done) | (simp only [execOp, mkOp, eval_const, e69]; go_simp))
      · have q0 := hJ.told 0 (by decide) rfl
        have q1 := hJ.told 1 (by decide) rfl
        have q2 := hJ.told 2 (by decide) rfl
        have q3 := hJ.told 3 (by decide) rfl
        have q4 := hJ.told 4 (by decide) rfl
        have q5 := hJ.told 5 (by decide) rfl
        have q6 := hJ.told 6 (by decide) rfl
        have q8 := hJ.told 8 (by decide) rfl
        have q10 := hJ.told 10 (by decide) rfl
        have q11 := hJ.told 11 (by decide) rfl
        have q12 := hJ.told 12 (by decide) rfl
        have q13 := hJ.told 13 (by decide) rfl
        have q14 := hJ.told 14 (by decide) rfl
        have q15 := hJ.told 15 (by decide) rfl
        have q16 := hJ.told 16 (by decide) rfl
        show PoEnd _ (Act.put (Act.put (Act.put (Act.put (Act.put (Act.put (Act.put (Act.put (Act.put (Act.put (Act.put (Act.put (Act.put (Act.put (Act.put (Act.put (Act.put _ (some 54) (gz 0)) (some 55) (gz 1)) (some 56) (gz 2)) (some 57) (gz 3)) (some 58) (gz 4)) (some 59) (gz 5)) (some 60) (gz 6)) (some 61) (gz 7)) (some 62) (gz 8)) (some 63) (gz 9)) (some 64) (gz 10)) (some 65) (gz 11)) (some 66) (gz 12)) (some 67) (gz 13)) (some 68) (gz 14)) (some 69) (gz 15)) (some 4) (gz 16)) wa
        rw [q0, q1, q2, q3, q4, q5, q6, q8, q10, q11, q12, q13, q14, q15, q16]
        simp only [Act.put, List.setIfInBounds_toArray, List.set_cons_zero, List.set_cons_succ]
        refine po_end ?_
        replace f_s0 := Bs.below f_s0 (Keep.nil hE) (Nat.le_refl _)
        replace f_s1 := Bs.below f_s1 (Keep.nil hE) (Nat.le_refl _)
        replace f_s2 := Bs.below f_s2 (Keep.nil hE) (Nat.le_refl _)
        have B7 := hE.below B6 (HGS.out _ B6) rfl
        clear B6 hE hJ HWF q0 q1 q2 q3 q4 q5 q6 q8 q10 q11 q12 q13 q14 q15 q16
        go_wp2
        go_ret
        exact ⟨rfl, B7⟩
    · go_enter Try.func7, Try.ntmps7
      go_wp2_with (go_at_call 18; refine (HRD.out _).mono ?_; rintro e w8 ⟨rfl, rfl⟩)
      go_loopw [6] (fun tv wr => ∃ i : Nat, i ≤ 32 ∧ tv = .int .i64 (i : Int) ∧ Owns wr w.heap.size (.slice (some ⟨w.heap.size, 0, none⟩) 32 32) (fillL i) ∧ Below w.heap.size w wr) (fun tv _ => (32 - intOf tv).toNat)
      case atStart =>
        exact ⟨0, by decide, rfl, by rw [fillL_zero]; exact om, B0⟩
      case round =>
      clear om B0
      obtain ⟨i, hi, rfl, oi, Bi⟩ := hrel
      have HFI := Lib.hid (fillL_length i)
      by_cases h32 : i < 32
      · have hi2 : (i : Int) < 32 := by omega
        have hi3 : 0 ≤ (i : Int) ∧ (i : Int) < 32 := by omega
        have HI := Lib.hid h32
        have hw : IntKind.i64.wrap ((i : Int) + 1) = (i : Int) + 1 := IntWalk.i64_in _ (by omega)
        clear h32
        go_wp2_with (refine wpList_store_byte rfl (.tmp 30) (.const (.int .u8 255)) rfl i 255 oi HFI.out.symm (Nat.le_refl _) (by rw [HFI.out]; exact HI.out) rfl rfl (by decide) ?_; intro w2 o2 gs
                     have B2 := Bi.grown gs (HGS.out _ Bi) (by intro k hk; cases hk; exact Nat.le_refl _)
                     rw [fillL_set i HI.out] at o2
                     clear gs oi Bi)
        go_roundw
        case rel => exact ⟨i + 1, by omega, by go_num, o2, B2⟩
        case measure => (simp [intOf]; try omega)
      · obtain rfl : i = 32 := by omega
        clear h32 hi
        go_wp2_with (first
          | (go_at_call 18; refine (HRD.out _).mono ?_; rintro e w8 ⟨rfl, rfl⟩)
          | (refine wpList_store_byte rfl (.tmp 32) (.const (.int .u8 237)) rfl 0 237 oi HFI.out.symm (Nat.le_refl _) (by rw [HFI.out]; decide) rfl rfl (by decide) ?_; intro w2 o2 gs
             have B2 := Bi.grown gs (HGS.out _ Bi) (by intro k hk; cases hk; exact Nat.le_refl _)
             clear gs oi Bi)
          | (refine wpList_store_byte rfl (.tmp 44) (.const (.int .u8 127)) rfl 31 127 o2 (by rw [List.length_set, HFI.out]) (Nat.le_refl _) (by rw [List.length_set, HFI.out]; decide) rfl rfl (by decide) ?_; intro w4 o4 gs
             have B4 := B2.grown gs (HGS.out _ B2) (by intro k hk; cases hk; exact Nat.le_refl _)
             rw [small_2] at o4
             obtain ⟨PL, hPL⟩ : ∃ P, P = litB (p25) 32 := ⟨_, rfl⟩
             rw [← hPL] at o4
             have f_s1 := o4.bs
             have f_s0 := HF0.out.below B4 (Nat.le_refl _)
             have HSH := Lib.hid fun v0 v1 w h0 h1 => small_shared v0 v1 l0 PL w (p25) (.inr (.inr (.inl rfl))) hPL HL0.out h0 h1
             have HLD := Lib.hid (small_all l0 PL (p25) (.inr (.inr (.inl rfl))) hPL).2.2
             have Bx := B4
             clear o4 B4 hPL
             clear gs o2 B2)
          | (go_at_call 16; refine (HSH.out _ _ _ f_s0 f_s1).mono ?_; rintro e w5 ⟨v5, rfl, f_s2, k5⟩
             replace f_s0 := f_s0.below k5 (Nat.le_refl _)
             replace f_s1 := f_s1.below k5 (Nat.le_refl _)
             have B5 := Bx.trans (k5.mono (HGS.out _ Bx))
             clear Bx k5 HSH))
        have B6 := B5.drew
        replace f_s0 := Bs.drew f_s0
        replace f_s1 := Bs.drew f_s1
        replace f_s2 := Bs.drew f_s2
        clear B5
        refine wp_region_po (Keep []) (Keep.refl _) (fun _ _ _ h1 h2 => h1.trans h2) (.rd 0 (.rd 1 (.rd 2 .done))) #[true, true, true, false, false, false, false, false, false, false, false, false, false, false, false, false, false, false, false, false] [3, 4, 5, 6, 7, 8, 9, 10, 11, 12, 13, 14, 15, 16, 17, 18, 19] [some 54, some 55, some 56, some 57, some 58, some 59, some 60, some 61, some 62, some 63, some 64, some 65, some 66, some 67, some 68, some 69, some 4] [[], [0], [1], [2], [3], [4], [4], [4, 5, 6], [4, 7], [4], [4, 9], [4, 8, 10], [4, 11], [7, 12], [13], [13, 14], [0, 1, 2, 3, 4, 5, 6, 7, 8, 9, 10, 11, 12, 13, 14, 15]] [(0, []), (1, [0]), (2, [1]), (3, [2]), (4, [3, 2]), (5, [4, 2]), (6, [2, 5]), (7, [6, 2]), (8, [7]), (9, [7]), (10, [8, 9, 7, 7]), (11, [10, 7]), (12, [7]), (13, [12, 7]), (14, [11, 13, 7]), (15, [7, 14]), (16, [15, 10]), (17, [16, 16]), (18, [16, 17]), (19, [18, 17, 0, 1, 2, 3, 4, 5, 6, 7, 8, 9, 10, 11, 12, 13, 14, 15, 16, 17, 18])] 7 (by kernel_rfl) (by kernel_rfl) (by decide) (by kernel_rfl) (by kernel_rfl) (by kernel_rfl) rfl (fun d _ _ _ _ h => by cases d <;> exact h) ?_
        refine lintz_pure 51 (Op.move (Operand.tmp 8)) 27 ((.int .i64 12)) rfl rfl rfl rfl rfl (fun w0 hb => by unfold mkOp; go_simp; all_goals (with_reducible rfl)) ?_
        simp only [Act.put, List.setIfInBounds_toArray, List.set_cons_zero, List.set_cons_succ]
        refine lintz_pure 52 (Op.binOp BinOp.eql 27 (Operand.tmp 51) (Operand.const (Value.int IntKind.i64 12)) 27) 4 (.bool true) rfl rfl rfl rfl rfl (fun w0 hb => by unfold mkOp; go_simp) ?_
        simp only [Act.put, List.setIfInBounds_toArray, List.set_cons_zero, List.set_cons_succ]
        refine lintz_pure 53 (Op.move (Operand.tmp 52)) 4 (.bool true) rfl rfl rfl rfl rfl (fun w0 hb => by unfold mkOp; go_simp; all_goals (with_reducible rfl)) ?_
        simp only [Act.put, List.setIfInBounds_toArray, List.set_cons_zero, List.set_cons_succ]
        refine lintz_leaf ?_
        have HWF : poWf [.val (v5), .val (.int .i64 ((([] : List UInt8)).length : Int)), .val (.bool true), .val (.bool true), .val (.bool true), .val (.slice ad0 32 c0), .val (.slice (some ⟨w.heap.size, 0, none⟩) 32 32), .own (litB (ladder (ofL (PL)) (clampN (l0))) 32) 17, .val (.string ⟨(litB (ladder (ofL (PL)) (clampN (l0))) 32).toArray⟩), .own (List.replicate 32 0) 17, .val (.string ⟨(List.replicate 32 0).toArray⟩), .val (.bool true), .val (.bool true), .val (.bool true), .val (.bool true), .val (.bool true), .val (.bool true)] [] = true := by kernel_rfl
        refine ⟨JG [.val (v5), .val (.int .i64 ((([] : List UInt8)).length : Int)), .val (.bool true), .val (.bool true), .val (.bool true), .val (.slice ad0 32 c0), .val (.slice (some ⟨w.heap.size, 0, none⟩) 32 32), .own (litB (ladder (ofL (PL)) (clampN (l0))) 32) 17, .val (.string ⟨(litB (ladder (ofL (PL)) (clampN (l0))) 32).toArray⟩), .own (List.replicate 32 0) 17, .val (.string ⟨(List.replicate 32 0).toArray⟩), .val (.bool true), .val (.bool true), .val (.bool true), .val (.bool true), .val (.bool true), .val (.bool true)] [] _, JG.start (Nat.le_refl _) (fun i hi => absurd hi (Nat.not_lt_zero _)), fun m gz wa p az hp hm hmp hcl hdn hE hJ hS hO => ?_, fun gz wa hE hJ => ?_⟩
        · rcases (show p = 0 ∨ p = 1 ∨ p = 2 ∨ p = 3 ∨ p = 4 ∨ p = 5 ∨ p = 6 ∨ p = 7 ∨ p = 8 ∨ p = 9 ∨ p = 10 ∨ p = 11 ∨ p = 12 ∨ p = 13 ∨ p = 14 ∨ p = 15 ∨ p = 16 by have h9 : p < 17 := hp; omega) with rfl | rfl | rfl | rfl | rfl | rfl | rfl | rfl | rfl | rfl | rfl | rfl | rfl | rfl | rfl | rfl | rfl
          · have e53 : az.eval (.tmp 53) = .bool true := hO 53 rfl
            have e7 : az.eval (.tmp 7) = v5 := hO 7 rfl
            exact po_run 54 (Op.move (Operand.tmp 7)) _ HWF hJ rfl hE rfl rfl rfl rfl rfl (wanted_of rfl rfl e53) (by first | (simp only [execOp, mkOp, eval_const, e7]; done) | (simp only [execOp, mkOp, eval_const, e7]; go_simp))
          · have e53 : az.eval (.tmp 53) = .bool true := hO 53 rfl
            have e54 := (hS 0 54 rfl (hdn 0 (by decide)) (Nat.le_of_ble_eq_true rfl)).trans (hJ.says (hdn 0 (by decide)) rfl)
            exact po_run 55 (Op.call { callee := Callee.builtin Builtin.len, args := #[Operand.tmp 54], argTypes := #[22] }) 3 HWF hJ rfl hE rfl rfl rfl rfl rfl (wanted_of rfl rfl e53) (exec_blen _ _ e54 (Bs.below f_s2 (Keep.nil hE) (Nat.le_refl _)))
          · have e53 : az.eval (.tmp 53) = .bool true := hO 53 rfl
            have e55 := (hS 1 55 rfl (hdn 1 (by decide)) (Nat.le_of_ble_eq_true rfl)).trans (hJ.says (hdn 1 (by decide)) rfl)
            exact po_run 56 (Op.binOp BinOp.eql 3 (Operand.tmp 55) (Operand.const (Value.int IntKind.i64 0)) 3) _ HWF hJ rfl hE rfl rfl rfl rfl rfl (wanted_of rfl rfl e53) (by simp only [execOp, mkOp, eval_const, e55]; (simp only [List.length_nil]; go_simp))
          · have e53 : az.eval (.tmp 53) = .bool true := hO 53 rfl
            have e56 := (hS 2 56 rfl (hdn 2 (by decide)) (Nat.le_of_ble_eq_true rfl)).trans (hJ.says (hdn 2 (by decide)) rfl)
            exact po_run 57 (Op.pick (Operand.tmp 53) (Operand.tmp 56) (Operand.const (Value.bool false))) _ HWF hJ rfl hE rfl rfl rfl rfl rfl rfl (by first | (simp only [execOp, mkOp, eval_const, e53, e56]; done) | (simp only [execOp, mkOp, eval_const, e53, e56]; go_simp))
          · have e57 := (hS 3 57 rfl (hdn 3 (by decide)) (Nat.le_of_ble_eq_true rfl)).trans (hJ.says (hdn 3 (by decide)) rfl)
            exact po_run 58 (Op.move (Operand.tmp 57)) _ HWF hJ rfl hE rfl rfl rfl rfl rfl rfl (by first | (simp only [execOp, mkOp, eval_const, e57]; done) | (simp only [execOp, mkOp, eval_const, e57]; go_simp))
          · have e58 := (hS 4 58 rfl (hdn 4 (by decide)) (Nat.le_of_ble_eq_true rfl)).trans (hJ.says (hdn 4 (by decide)) rfl)
            have e0 : az.eval (.tmp 0) = .slice ad0 32 c0 := hO 0 rfl
            exact po_run 59 (Op.move (Operand.tmp 0)) _ HWF hJ rfl hE rfl rfl rfl rfl rfl (wanted_of rfl rfl e58) (by first | (simp only [execOp, mkOp, eval_const, e0]; done) | (simp only [execOp, mkOp, eval_const, e0]; go_simp))
          · have e58 := (hS 4 58 rfl (hdn 4 (by decide)) (Nat.le_of_ble_eq_true rfl)).trans (hJ.says (hdn 4 (by decide)) rfl)
            have e5 : az.eval (.tmp 5) = .slice (some ⟨w.heap.size, 0, none⟩) 32 32 := hO 5 rfl
            exact po_run 60 (Op.move (Operand.tmp 5)) _ HWF hJ rfl hE rfl rfl rfl rfl rfl (wanted_of rfl rfl e58) (by first | (simp only [execOp, mkOp, eval_const, e5]; done) | (simp only [execOp, mkOp, eval_const, e5]; go_simp))
          · have e58 := (hS 4 58 rfl (hdn 4 (by decide)) (Nat.le_of_ble_eq_true rfl)).trans (hJ.says (hdn 4 (by decide)) rfl)
            have e59 := (hS 5 59 rfl (hdn 5 (by decide)) (Nat.le_of_ble_eq_true rfl)).trans (hJ.says (hdn 5 (by decide)) rfl)
            have e60 := (hS 6 60 rfl (hdn 6 (by decide)) (Nat.le_of_ble_eq_true rfl)).trans (hJ.says (hdn 6 (by decide)) rfl)
            exact po_owns 61 12 #[Operand.tmp 59, Operand.tmp 60] #[22, 22] _ HWF hJ rfl hE (mult_any _ _ _ _ _ (Bs.below f_s0 (Keep.nil hE) (Nat.le_refl _)) (Bs.below f_s1 (Keep.nil hE) (Nat.le_refl _))) rfl rfl rfl rfl (wanted_of rfl rfl e58) Try.func12 (by kernel_rfl) (by kernel_rfl) (by simp only [List.map_toArray, List.map_cons, List.map_nil, eval_const, eval_func, e59, e60] <;> rfl)
          · have e58 := (hS 4 58 rfl (hdn 4 (by decide)) (Nat.le_of_ble_eq_true rfl)).trans (hJ.says (hdn 4 (by decide)) rfl)
            have e61 := hS 7 61 rfl (hdn 7 (by decide)) (Nat.le_of_ble_eq_true rfl)
            exact po_run 62 (Op.convert 22 9 (Operand.tmp 61)) 9 HWF hJ rfl hE rfl rfl rfl rfl rfl (wanted_of rfl rfl e58) (exec_str _ _ _ e61 (hJ.own (hdn 7 (by decide)) rfl (po_never hm (Nat.le_refl _))).bs)
          · have e58 := (hS 4 58 rfl (hdn 4 (by decide)) (Nat.le_of_ble_eq_true rfl)).trans (hJ.says (hdn 4 (by decide)) rfl)
            exact po_made 63 (Op.makeSlice 22 (Operand.const (Value.int IntKind.i64 32)) (Operand.const (Value.int IntKind.i64 32))) 22 HWF hJ rfl hE rfl rfl rfl rfl rfl (wanted_of rfl rfl e58) (exec_make32 _ _ _) ((Below.refl _ _).alloc (Nat.le_refl _) _) (made_own _ 32 (by unfold maxLen; omega))
          · have e58 := (hS 4 58 rfl (hdn 4 (by decide)) (Nat.le_of_ble_eq_true rfl)).trans (hJ.says (hdn 4 (by decide)) rfl)
            have e63 := hS 9 63 rfl (hdn 9 (by decide)) (Nat.le_of_ble_eq_true rfl)
            exact po_run 64 (Op.convert 22 9 (Operand.tmp 63)) 9 HWF hJ rfl hE rfl rfl rfl rfl rfl (wanted_of rfl rfl e58) (exec_str _ _ _ e63 (hJ.own (hdn 9 (by decide)) rfl (po_never hm (Nat.le_refl _))).bs)
          · have e58 := (hS 4 58 rfl (hdn 4 (by decide)) (Nat.le_of_ble_eq_true rfl)).trans (hJ.says (hdn 4 (by decide)) rfl)
            have e62 := (hS 8 62 rfl (hdn 8 (by decide)) (Nat.le_of_ble_eq_true rfl)).trans (hJ.says (hdn 8 (by decide)) rfl)
            have e64 := (hS 10 64 rfl (hdn 10 (by decide)) (Nat.le_of_ble_eq_true rfl)).trans (hJ.says (hdn 10 (by decide)) rfl)
            exact po_run 65 (Op.binOp BinOp.eql 9 (Operand.tmp 62) (Operand.tmp 64) 9) _ HWF hJ rfl hE rfl rfl rfl rfl rfl (wanted_of rfl rfl e58) (exec_str_yes _ _ _ _ (HLD.out) e62 e64)
          · have e58 := (hS 4 58 rfl (hdn 4 (by decide)) (Nat.le_of_ble_eq_true rfl)).trans (hJ.says (hdn 4 (by decide)) rfl)
            have e65 := (hS 11 65 rfl (hdn 11 (by decide)) (Nat.le_of_ble_eq_true rfl)).trans (hJ.says (hdn 11 (by decide)) rfl)
            exact po_run 66 (Op.pick (Operand.tmp 58) (Operand.tmp 65) (Operand.const (Value.bool false))) _ HWF hJ rfl hE rfl rfl rfl rfl rfl rfl (by first | (simp only [execOp, mkOp, eval_const, e58, e65]; done) | (simp only [execOp, mkOp, eval_const, e58, e65]; go_simp))
          · have e66 := (hS 12 66 rfl (hdn 12 (by decide)) (Nat.le_of_ble_eq_true rfl)).trans (hJ.says (hdn 12 (by decide)) rfl)
            exact po_run 67 (Op.move (Operand.tmp 66)) _ HWF hJ rfl hE rfl rfl rfl rfl rfl rfl (by first | (simp only [execOp, mkOp, eval_const, e66]; done) | (simp only [execOp, mkOp, eval_const, e66]; go_simp))
          · have e67 := (hS 13 67 rfl (hdn 13 (by decide)) (Nat.le_of_ble_eq_true rfl)).trans (hJ.says (hdn 13 (by decide)) rfl)
            exact po_call 68 9 #[] #[] _ HWF hJ rfl hE (awake6_any _) rfl rfl rfl rfl (wanted_of rfl rfl e67) Try.func9 (by kernel_rfl) (by kernel_rfl) (by simp only [List.map_toArray, List.map_cons, List.map_nil, eval_const, eval_func] <;> rfl)
          · have e67 := (hS 13 67 rfl (hdn 13 (by decide)) (Nat.le_of_ble_eq_true rfl)).trans (hJ.says (hdn 13 (by decide)) rfl)
            have e68 := (hS 14 68 rfl (hdn 14 (by decide)) (Nat.le_of_ble_eq_true rfl)).trans (hJ.says (hdn 14 (by decide)) rfl)
            exact po_run 69 (Op.pick (Operand.tmp 67) (Operand.tmp 68) (Operand.const (Value.bool false))) _ HWF hJ rfl hE rfl rfl rfl rfl rfl rfl (by first | (simp only [execOp, mkOp, eval_const, e67, e68]; done) | (simp only [execOp, mkOp, eval_const, e67, e68]; go_simp))
          · have e69 := (hS 15 69 rfl (hdn 15 (by decide)) (Nat.le_of_ble_eq_true rfl)).trans (hJ.says (hdn 15 (by decide)) rfl)
            exact po_run 4 (Op.assign (Operand.tmp 69)) _ HWF hJ rfl hE rfl rfl rfl rfl rfl rfl (by first | (simp only [execOp, mkOp, eval_const, e69]; done) | (simp only [execOp, mkOp, eval_const, e69]; go_simp))
        · have q0 := hJ.told 0 (by decide) rfl
          have q1 := hJ.told 1 (by decide) rfl
          have q2 := hJ.told 2 (by decide) rfl
          have q3 := hJ.told 3 (by decide) rfl
          have q4 := hJ.told 4 (by decide) rfl
          have q5 := hJ.told 5 (by decide) rfl
          have q6 := hJ.told 6 (by decide) rfl
          have q8 := hJ.told 8 (by decide) rfl
          have q10 := hJ.told 10 (by decide) rfl
          have q11 := hJ.told 11 (by decide) rfl
          have q12 := hJ.told 12 (by decide) rfl
          have q13 := hJ.told 13 (by decide) rfl
          have q14 := hJ.told 14 (by decide) rfl
          have q15 := hJ.told 15 (by decide) rfl
          have q16 := hJ.told 16 (by decide) rfl
          show PoEnd _ (Act.put (Act.put (Act.put (Act.put (Act.put (Act.put (Act.put (Act.put (Act.put (Act.put (Act.put (Act.put (Act.put (Act.put (Act.put (Act.put (Act.put _ (some 54) (gz 0)) (some 55) (gz 1)) (some 56) (gz 2)) (some 57) (gz 3)) (some 58) (gz 4)) (some 59) (gz 5)) (some 60) (gz 6)) (some 61) (gz 7)) (some 62) (gz 8)) (some 63) (gz 9)) (some 64) (gz 10)) (some 65) (gz 11)) (some 66) (gz 12)) (some 67) (gz 13)) (some 68) (gz 14)) (some 69) (gz 15)) (some 4) (gz 16)) wa
          rw [q0, q1, q2, q3, q4, q5, q6, q8, q10, q11, q12, q13, q14, q15, q16]
          simp only [Act.put, List.setIfInBounds_toArray, List.set_cons_zero, List.set_cons_succ]
          refine po_end ?_
          replace f_s0 := Bs.below f_s0 (Keep.nil hE) (Nat.le_refl _)
          replace f_s1 := Bs.below f_s1 (Keep.nil hE) (Nat.le_refl _)
          replace f_s2 := Bs.below f_s2 (Keep.nil hE) (Nat.le_refl _)
          have B7 := hE.below B6 (HGS.out _ B6) rfl
          clear B6 hE hJ HWF q0 q1 q2 q3 q4 q5 q6 q8 q10 q11 q12 q13 q14 q15 q16
          go_wp2
          go_ret
          exact ⟨rfl, B7⟩
    · go_enter Try.func7, Try.ntmps7
      go_wp2_with (go_at_call 18; refine (HRD.out _).mono ?_; rintro e w8 ⟨rfl, rfl⟩)
      go_loopw [6] (fun tv wr => ∃ i : Nat, i ≤ 32 ∧ tv = .int .i64 (i : Int) ∧ Owns wr w.heap.size (.slice (some ⟨w.heap.size, 0, none⟩) 32 32) (fillL i) ∧ Below w.heap.size w wr) (fun tv _ => (32 - intOf tv).toNat)
      case atStart =>
        exact ⟨0, by decide, rfl, by rw [fillL_zero]; exact om, B0⟩
      case round =>
      clear om B0
      obtain ⟨i, hi, rfl, oi, Bi⟩ := hrel
      have HFI := Lib.hid (fillL_length i)
      by_cases h32 : i < 32
      · have hi2 : (i : Int) < 32 := by omega
        have hi3 : 0 ≤ (i : Int) ∧ (i : Int) < 32 := by omega
        have HI := Lib.hid h32
        have hw : IntKind.i64.wrap ((i : Int) + 1) = (i : Int) + 1 := IntWalk.i64_in _ (by omega)
        clear h32
        go_wp2_with (refine wpList_store_byte rfl (.tmp 30) (.const (.int .u8 255)) rfl i 255 oi HFI.out.symm (Nat.le_refl _) (by rw [HFI.out]; exact HI.out) rfl rfl (by decide) ?_; intro w2 o2 gs
                     have B2 := Bi.grown gs (HGS.out _ Bi) (by intro k hk; cases hk; exact Nat.le_refl _)
                     rw [fillL_set i HI.out] at o2
                     clear gs oi Bi)
        go_roundw
        case rel => exact ⟨i + 1, by omega, by go_num, o2, B2⟩
        case measure => (simp [intOf]; try omega)
      · obtain rfl : i = 32 := by omega
        clear h32 hi
        go_wp2_with (first
          | (go_at_call 18; refine (HRD.out _).mono ?_; rintro e w8 ⟨rfl, rfl⟩)
          | (refine wpList_store_byte rfl (.tmp 32) (.const (.int .u8 237)) rfl 0 237 oi HFI.out.symm (Nat.le_refl _) (by rw [HFI.out]; decide) rfl rfl (by decide) ?_; intro w2 o2 gs
             have B2 := Bi.grown gs (HGS.out _ Bi) (by intro k hk; cases hk; exact Nat.le_refl _)
             clear gs oi Bi)
          | (refine wpList_store_byte rfl (.tmp 37) (.const (.int .u8 236)) rfl 0 236 o2 (by rw [List.length_set, HFI.out]) (Nat.le_refl _) (by rw [List.length_set, HFI.out]; decide) rfl rfl (by decide) ?_; intro w3 o3 gs
             have B3 := B2.grown gs (HGS.out _ B2) (by intro k hk; cases hk; exact Nat.le_refl _)
             clear gs o2 B2)
          | (refine wpList_store_byte rfl (.tmp 44) (.const (.int .u8 127)) rfl 31 127 o3 (by rw [List.length_set, List.length_set, HFI.out]) (Nat.le_refl _) (by rw [List.length_set, List.length_set, HFI.out]; decide) rfl rfl (by decide) ?_; intro w4 o4 gs
             have B4 := B3.grown gs (HGS.out _ B3) (by intro k hk; cases hk; exact Nat.le_refl _)
             rw [small_3] at o4
             obtain ⟨PL, hPL⟩ : ∃ P, P = litB (p25 - 1) 32 := ⟨_, rfl⟩
             rw [← hPL] at o4
             have f_s1 := o4.bs
             have f_s0 := HF0.out.below B4 (Nat.le_refl _)
             have HSH := Lib.hid fun v0 v1 w h0 h1 => small_shared v0 v1 l0 PL w (p25 - 1) (.inr (.inr (.inr (.inl rfl)))) hPL HL0.out h0 h1
             have HLD := Lib.hid (small_all l0 PL (p25 - 1) (.inr (.inr (.inr (.inl rfl)))) hPL).2.2
             have Bx := B4
             clear o4 B4 hPL
             clear gs o3 B3)
          | (go_at_call 16; refine (HSH.out _ _ _ f_s0 f_s1).mono ?_; rintro e w5 ⟨v5, rfl, f_s2, k5⟩
             replace f_s0 := f_s0.below k5 (Nat.le_refl _)
             replace f_s1 := f_s1.below k5 (Nat.le_refl _)
             have B5 := Bx.trans (k5.mono (HGS.out _ Bx))
             clear Bx k5 HSH))
        have B6 := B5.drew
        replace f_s0 := Bs.drew f_s0
        replace f_s1 := Bs.drew f_s1
        replace f_s2 := Bs.drew f_s2
        clear B5
        refine wp_region_po (Keep []) (Keep.refl _) (fun _ _ _ h1 h2 => h1.trans h2) (.rd 0 (.rd 1 (.rd 2 .done))) #[true, true, true, false, false, false, false, false, false, false, false, false, false, false, false, false, false, false, false, false] [3, 4, 5, 6, 7, 8, 9, 10, 11, 12, 13, 14, 15, 16, 17, 18, 19] [some 54, some 55, some 56, some 57, some 58, some 59, some 60, some 61, some 62, some 63, some 64, some 65, some 66, some 67, some 68, some 69, some 4] [[], [0], [1], [2], [3], [4], [4], [4, 5, 6], [4, 7], [4], [4, 9], [4, 8, 10], [4, 11], [7, 12], [13], [13, 14], [0, 1, 2, 3, 4, 5, 6, 7, 8, 9, 10, 11, 12, 13, 14, 15]] [(0, []), (1, [0]), (2, [1]), (3, [2]), (4, [3, 2]), (5, [4, 2]), (6, [2, 5]), (7, [6, 2]), (8, [7]), (9, [7]), (10, [8, 9, 7, 7]), (11, [10, 7]), (12, [7]), (13, [12, 7]), (14, [11, 13, 7]), (15, [7, 14]), (16, [15, 10]), (17, [16, 16]), (18, [16, 17]), (19, [18, 17, 0, 1, 2, 3, 4, 5, 6, 7, 8, 9, 10, 11, 12, 13, 14, 15, 16, 17, 18])] 7 (by kernel_rfl) (by kernel_rfl) (by decide) (by kernel_rfl) (by kernel_rfl) (by kernel_rfl) rfl (fun d _ _ _ _ h => by cases d <;> exact h) ?_
        refine lintz_pure 51 (Op.move (Operand.tmp 8)) 27 ((.int .i64 12)) rfl rfl rfl rfl rfl (fun w0 hb => by unfold mkOp; go_simp; all_goals (with_reducible rfl)) ?_
        simp only [Act.put, List.setIfInBounds_toArray, List.set_cons_zero, List.set_cons_succ]
        refine lintz_pure 52 (Op.binOp BinOp.eql 27 (Operand.tmp 51) (Operand.const (Value.int IntKind.i64 12)) 27) 4 (.bool true) rfl rfl rfl rfl rfl (fun w0 hb => by unfold mkOp; go_simp) ?_
        simp only [Act.put, List.setIfInBounds_toArray, List.set_cons_zero, List.set_cons_succ]
        refine lintz_pure 53 (Op.move (Operand.tmp 52)) 4 (.bool true) rfl rfl rfl rfl rfl (fun w0 hb => by unfold mkOp; go_simp; all_goals (with_reducible rfl)) ?_
        simp only [Act.put, List.setIfInBounds_toArray, List.set_cons_zero, List.set_cons_succ]
        refine lintz_leaf ?_
        have HWF : poWf [.val (v5), .val (.int .i64 ((([] : List UInt8)).length : Int)), .val (.bool true), .val (.bool true), .val (.bool true), .val (.slice ad0 32 c0), .val (.slice (some ⟨w.heap.size, 0, none⟩) 32 32), .own (litB (ladder (ofL (PL)) (clampN (l0))) 32) 17, .val (.string ⟨(litB (ladder (ofL (PL)) (clampN (l0))) 32).toArray⟩), .own (List.replicate 32 0) 17, .val (.string ⟨(List.replicate 32 0).toArray⟩), .val (.bool true), .val (.bool true), .val (.bool true), .val (.bool true), .val (.bool true), .val (.bool true)] [] = true := by kernel_rfl
        refine ⟨JG [.val (v5), .val (.int .i64 ((([] : List UInt8)).length : Int)), .val (.bool true), .val (.bool true), .val (.bool true), .val (.slice ad0 32 c0), .val (.slice (some ⟨w.heap.size, 0, none⟩) 32 32), .own (litB (ladder (ofL (PL)) (clampN (l0))) 32) 17, .val (.string ⟨(litB (ladder (ofL (PL)) (clampN (l0))) 32).toArray⟩), .own (List.replicate 32 0) 17, .val (.string ⟨(List.replicate 32 0).toArray⟩), .val (.bool true), .val (.bool true), .val (.bool true), .val (.bool true), .val (.bool true), .val (.bool true)] [] _, JG.start (Nat.le_refl _) (fun i hi => absurd hi (Nat.not_lt_zero _)), fun m gz wa p az hp hm hmp hcl hdn hE hJ hS hO => ?_, fun gz wa hE hJ => ?_⟩
        · rcases (show p = 0 ∨ p = 1 ∨ p = 2 ∨ p = 3 ∨ p = 4 ∨ p = 5 ∨ p = 6 ∨ p = 7 ∨ p = 8 ∨ p = 9 ∨ p = 10 ∨ p = 11 ∨ p = 12 ∨ p = 13 ∨ p = 14 ∨ p = 15 ∨ p = 16 by have h9 : p < 17 := hp; omega) with rfl | rfl | rfl | rfl | rfl | rfl | rfl | rfl | rfl | rfl | rfl | rfl | rfl | rfl | rfl | rfl | rfl
          · have e53 : az.eval (.tmp 53) = .bool true := hO 53 rfl
            have e7 : az.eval (.tmp 7) = v5 := hO 7 rfl
            exact po_run 54 (Op.move (Operand.tmp 7)) _ HWF hJ rfl hE rfl rfl rfl rfl rfl (wanted_of rfl rfl e53) (by first | (simp only [execOp, mkOp, eval_const, e7]; done) | (simp only [execOp, mkOp, eval_const, e7]; go_simp))
          · have e53 : az.eval (.tmp 53) = .bool true := hO 53 rfl
            have e54 := (hS 0 54 rfl (hdn 0 (by decide)) (Nat.le_of_ble_eq_true rfl)).trans (hJ.says (hdn 0 (by decide)) rfl)
            exact po_run 55 (Op.call { callee := Callee.builtin Builtin.len, args := #[Operand.tmp 54], argTypes := #[22] }) 3 HWF hJ rfl hE rfl rfl rfl rfl rfl (wanted_of rfl rfl e53) (exec_blen _ _ e54 (Bs.below f_s2 (Keep.nil hE) (Nat.le_refl _)))
          · have e53 : az.eval (.tmp 53) = .bool true := hO 53 rfl
            have e55 := (hS 1 55 rfl (hdn 1 (by decide)) (Nat.le_of_ble_eq_true rfl)).trans (hJ.says (hdn 1 (by decide)) rfl)
            exact po_run 56 (Op.binOp BinOp.eql 3 (Operand.tmp 55) (Operand.const (Value.int IntKind.i64 0)) 3) _ HWF hJ rfl hE rfl rfl rfl rfl rfl (wanted_of rfl rfl e53) (by simp only [execOp, mkOp, eval_const, e55]; (simp only [List.length_nil]; go_simp))
          · have e53 : az.eval (.tmp 53) = .bool true := hO 53 rfl
            have e56 := (hS 2 56 rfl (hdn 2 (by decide)) (Nat.le_of_ble_eq_true rfl)).trans (hJ.says (hdn 2 (by decide)) rfl)
            exact po_run 57 (Op.pick (Operand.tmp 53) (Operand.tmp 56) (Operand.const (Value.bool false))) _ HWF hJ rfl hE rfl rfl rfl rfl rfl rfl (by first | (simp only [execOp, mkOp, eval_const, e53, e56]; done) | (simp only [execOp, mkOp, eval_const, e53, e56]; go_simp))
          · have e57 := (hS 3 57 rfl (hdn 3 (by decide)) (Nat.le_of_ble_eq_true rfl)).trans (hJ.says (hdn 3 (by decide)) rfl)
            exact po_run 58 (Op.move (Operand.tmp 57)) _ HWF hJ rfl hE rfl rfl rfl rfl rfl rfl (by first | (simp only [execOp, mkOp, eval_const, e57]; done) | (simp only [execOp, mkOp, eval_const, e57]; go_simp))
          · have e58 := (hS 4 58 rfl (hdn 4 (by decide)) (Nat.le_of_ble_eq_true rfl)).trans (hJ.says (hdn 4 (by decide)) rfl)
            have e0 : az.eval (.tmp 0) = .slice ad0 32 c0 := hO 0 rfl
            exact po_run 59 (Op.move (Operand.tmp 0)) _ HWF hJ rfl hE rfl rfl rfl rfl rfl (wanted_of rfl rfl e58) (by first | (simp only [execOp, mkOp, eval_const, e0]; done) | (simp only [execOp, mkOp, eval_const, e0]; go_simp))
          · have e58 := (hS 4 58 rfl (hdn 4 (by decide)) (Nat.le_of_ble_eq_true rfl)).trans (hJ.says (hdn 4 (by decide)) rfl)
            have e5 : az.eval (.tmp 5) = .slice (some ⟨w.heap.size, 0, none⟩) 32 32 := hO 5 rfl
            exact po_run 60 (Op.move (Operand.tmp 5)) _ HWF hJ rfl hE rfl rfl rfl rfl rfl (wanted_of rfl rfl e58) (by first | (simp only [execOp, mkOp, eval_const, e5]; done) | (simp only [execOp, mkOp, eval_const, e5]; go_simp))
          · have e58 := (hS 4 58 rfl (hdn 4 (by decide)) (Nat.le_of_ble_eq_true rfl)).trans (hJ.says (hdn 4 (by decide)) rfl)
            have e59 := (hS 5 59 rfl (hdn 5 (by decide)) (Nat.le_of_ble_eq_true rfl)).trans (hJ.says (hdn 5 (by decide)) rfl)
            have e60 := (hS 6 60 rfl (hdn 6 (by decide)) (Nat.le_of_ble_eq_true rfl)).trans (hJ.says (hdn 6 (by decide)) rfl)
            exact po_owns 61 12 #[Operand.tmp 59, Operand.tmp 60] #[22, 22] _ HWF hJ rfl hE (mult_any _ _ _ _ _ (Bs.below f_s0 (Keep.nil hE) (Nat.le_refl _)) (Bs.below f_s1 (Keep.nil hE) (Nat.le_refl _))) rfl rfl rfl rfl (wanted_of rfl rfl e58) Try.func12 (by kernel_rfl) (by kernel_rfl) (by simp only [List.map_toArray, List.map_cons, List.map_nil, eval_const, eval_func, e59, e60] <;> rfl)
          · have e58 := (hS 4 58 rfl (hdn 4 (by decide)) (Nat.le_of_ble_eq_true rfl)).trans (hJ.says (hdn 4 (by decide)) rfl)
            have e61 := hS 7 61 rfl (hdn 7 (by decide)) (Nat.le_of_ble_eq_true rfl)
            exact po_run 62 (Op.convert 22 9 (Operand.tmp 61)) 9 HWF hJ rfl hE rfl rfl rfl rfl rfl (wanted_of rfl rfl e58) (exec_str _ _ _ e61 (hJ.own (hdn 7 (by decide)) rfl (po_never hm (Nat.le_refl _))).bs)
          · have e58 := (hS 4 58 rfl (hdn 4 (by decide)) (Nat.le_of_ble_eq_true rfl)).trans (hJ.says (hdn 4 (by decide)) rfl)
            exact po_made 63 (Op.makeSlice 22 (Operand.const (Value.int IntKind.i64 32)) (Operand.const (Value.int IntKind.i64 32))) 22 HWF hJ rfl hE rfl rfl rfl rfl rfl (wanted_of rfl rfl e58) (exec_make32 _ _ _) ((Below.refl _ _).alloc (Nat.le_refl _) _) (made_own _ 32 (by unfold maxLen; omega))
          · have e58 := (hS 4 58 rfl (hdn 4 (by decide)) (Nat.le_of_ble_eq_true rfl)).trans (hJ.says (hdn 4 (by decide)) rfl)
            have e63 := hS 9 63 rfl (hdn 9 (by decide)) (Nat.le_of_ble_eq_true rfl)
            exact po_run 64 (Op.convert 22 9 (Operand.tmp 63)) 9 HWF hJ rfl hE rfl rfl rfl rfl rfl (wanted_of rfl rfl e58) (exec_str _ _ _ e63 (hJ.own (hdn 9 (by decide)) rfl (po_never hm (Nat.le_refl _))).bs)
          · have e58 := (hS 4 58 rfl (hdn 4 (by decide)) (Nat.le_of_ble_eq_true rfl)).trans (hJ.says (hdn 4 (by decide)) rfl)
            have e62 := (hS 8 62 rfl (hdn 8 (by decide)) (Nat.le_of_ble_eq_true rfl)).trans (hJ.says (hdn 8 (by decide)) rfl)
            have e64 := (hS 10 64 rfl (hdn 10 (by decide)) (Nat.le_of_ble_eq_true rfl)).trans (hJ.says (hdn 10 (by decide)) rfl)
            exact po_run 65 (Op.binOp BinOp.eql 9 (Operand.tmp 62) (Operand.tmp 64) 9) _ HWF hJ rfl hE rfl rfl rfl rfl rfl (wanted_of rfl rfl e58) (exec_str_yes _ _ _ _ (HLD.out) e62 e64)
          · have e58 := (hS 4 58 rfl (hdn 4 (by decide)) (Nat.le_of_ble_eq_true rfl)).trans (hJ.says (hdn 4 (by decide)) rfl)
            have e65 := (hS 11 65 rfl (hdn 11 (by decide)) (Nat.le_of_ble_eq_true rfl)).trans (hJ.says (hdn 11 (by decide)) rfl)
            exact po_run 66 (Op.pick (Operand.tmp 58) (Operand.tmp 65) (Operand.const (Value.bool false))) _ HWF hJ rfl hE rfl rfl rfl rfl rfl rfl (by first | (simp only [execOp, mkOp, eval_const, e58, e65]; done) | (simp only [execOp, mkOp, eval_const, e58, e65]; go_simp))
          · have e66 := (hS 12 66 rfl (hdn 12 (by decide)) (Nat.le_of_ble_eq_true rfl)).trans (hJ.says (hdn 12 (by decide)) rfl)
            exact po_run 67 (Op.move (Operand.tmp 66)) _ HWF hJ rfl hE rfl rfl rfl rfl rfl rfl (by first | (simp only [execOp, mkOp, eval_const, e66]; done) | (simp only [execOp, mkOp, eval_const, e66]; go_simp))
          · have e67 := (hS 13 67 rfl (hdn 13 (by decide)) (Nat.le_of_ble_eq_true rfl)).trans (hJ.says (hdn 13 (by decide)) rfl)
            exact po_call 68 9 #[] #[] _ HWF hJ rfl hE (awake6_any _) rfl rfl rfl rfl (wanted_of rfl rfl e67) Try.func9 (by kernel_rfl) (by kernel_rfl) (by simp only [List.map_toArray, List.map_cons, List.map_nil, eval_const, eval_func] <;> rfl)
          · have e67 := (hS 13 67 rfl (hdn 13 (by decide)) (Nat.le_of_ble_eq_true rfl)).trans (hJ.says (hdn 13 (by decide)) rfl)
            have e68 := (hS 14 68 rfl (hdn 14 (by decide)) (Nat.le_of_ble_eq_true rfl)).trans (hJ.says (hdn 14 (by decide)) rfl)
            exact po_run 69 (Op.pick (Operand.tmp 67) (Operand.tmp 68) (Operand.const (Value.bool false))) _ HWF hJ rfl hE rfl rfl rfl rfl rfl rfl (by first | (simp only [execOp, mkOp, eval_const, e67, e68]; done) | (simp only [execOp, mkOp, eval_const, e67, e68]; go_simp))
          · have e69 := (hS 15 69 rfl (hdn 15 (by decide)) (Nat.le_of_ble_eq_true rfl)).trans (hJ.says (hdn 15 (by decide)) rfl)
            exact po_run 4 (Op.assign (Operand.tmp 69)) _ HWF hJ rfl hE rfl rfl rfl rfl rfl rfl (by first | (simp only [execOp, mkOp, eval_const, e69]; done) | (simp only [execOp, mkOp, eval_const, e69]; go_simp))
        · have q0 := hJ.told 0 (by decide) rfl
          have q1 := hJ.told 1 (by decide) rfl
          have q2 := hJ.told 2 (by decide) rfl
          have q3 := hJ.told 3 (by decide) rfl
          have q4 := hJ.told 4 (by decide) rfl
          have q5 := hJ.told 5 (by decide) rfl
          have q6 := hJ.told 6 (by decide) rfl
          have q8 := hJ.told 8 (by decide) rfl
          have q10 := hJ.told 10 (by decide) rfl
          have q11 := hJ.told 11 (by decide) rfl
          have q12 := hJ.told 12 (by decide) rfl
          have q13 := hJ.told 13 (by decide) rfl
          have q14 := hJ.told 14 (by decide) rfl
          have q15 := hJ.told 15 (by decide) rfl
          have q16 := hJ.told 16 (by decide) rfl
          show PoEnd _ (Act.put (Act.put (Act.put (Act.put (Act.put (Act.put (Act.put (Act.put (Act.put (Act.put (Act.put (Act.put (Act.put (Act.put (Act.put (Act.put (Act.put _ (some 54) (gz 0)) (some 55) (gz 1)) (some 56) (gz 2)) (some 57) (gz 3)) (some 58) (gz 4)) (some 59) (gz 5)) (some 60) (gz 6)) (some 61) (gz 7)) (some 62) (gz 8)) (some 63) (gz 9)) (some 64) (gz 10)) (some 65) (gz 11)) (some 66) (gz 12)) (some 67) (gz 13)) (some 68) (gz 14)) (some 69) (gz 15)) (some 4) (gz 16)) wa
          rw [q0, q1, q2, q3, q4, q5, q6, q8, q10, q11, q12, q13, q14, q15, q16]
          simp only [Act.put, List.setIfInBounds_toArray, List.set_cons_zero, List.set_cons_succ]
          refine po_end ?_
          replace f_s0 := Bs.below f_s0 (Keep.nil hE) (Nat.le_refl _)
          replace f_s1 := Bs.below f_s1 (Keep.nil hE) (Nat.le_refl _)
          replace f_s2 := Bs.below f_s2 (Keep.nil hE) (Nat.le_refl _)
          have B7 := hE.below B6 (HGS.out _ B6) rfl
          clear B6 hE hJ HWF q0 q1 q2 q3 q4 q5 q6 q8 q10 q11 q12 q13 q14 q15 q16
          go_wp2
          go_ret
          exact ⟨rfl, B7⟩
    · go_enter Try.func7, Try.ntmps7
      go_wp2_with (go_at_call 18; refine (HRD.out _).mono ?_; rintro e w8 ⟨rfl, rfl⟩)
      go_loopw [6] (fun tv wr => ∃ i : Nat, i ≤ 32 ∧ tv = .int .i64 (i : Int) ∧ Owns wr w.heap.size (.slice (some ⟨w.heap.size, 0, none⟩) 32 32) (fillL i) ∧ Below w.heap.size w wr) (fun tv _ => (32 - intOf tv).toNat)
      case atStart =>
        exact ⟨0, by decide, rfl, by rw [fillL_zero]; exact om, B0⟩
      case round =>
      clear om B0
      obtain ⟨i, hi, rfl, oi, Bi⟩ := hrel
      have HFI := Lib.hid (fillL_length i)
      by_cases h32 : i < 32
      · have hi2 : (i : Int) < 32 := by omega
        have hi3 : 0 ≤ (i : Int) ∧ (i : Int) < 32 := by omega
        have HI := Lib.hid h32
        have hw : IntKind.i64.wrap ((i : Int) + 1) = (i : Int) + 1 := IntWalk.i64_in _ (by omega)
        clear h32
        go_wp2_with (refine wpList_store_byte rfl (.tmp 30) (.const (.int .u8 255)) rfl i 255 oi HFI.out.symm (Nat.le_refl _) (by rw [HFI.out]; exact HI.out) rfl rfl (by decide) ?_; intro w2 o2 gs
                     have B2 := Bi.grown gs (HGS.out _ Bi) (by intro k hk; cases hk; exact Nat.le_refl _)
                     rw [fillL_set i HI.out] at o2
                     clear gs oi Bi)
        go_roundw
        case rel => exact ⟨i + 1, by omega, by go_num, o2, B2⟩
        case measure => (simp [intOf]; try omega)
      · obtain rfl : i = 32 := by omega
        clear h32 hi
        go_wp2_with (first
          | (go_at_call 18; refine (HRD.out _).mono ?_; rintro e w8 ⟨rfl, rfl⟩)
          | (refine wpList_store_byte rfl (.tmp 32) (.const (.int .u8 237)) rfl 0 237 oi HFI.out.symm (Nat.le_refl _) (by rw [HFI.out]; decide) rfl rfl (by decide) ?_; intro w2 o2 gs
             have B2 := Bi.grown gs (HGS.out _ Bi) (by intro k hk; cases hk; exact Nat.le_refl _)
             clear gs oi Bi)
          | (refine wpList_store_byte rfl (.tmp 42) (.const (.int .u8 238)) rfl 0 238 o2 (by rw [List.length_set, HFI.out]) (Nat.le_refl _) (by rw [List.length_set, HFI.out]; decide) rfl rfl (by decide) ?_; intro w3 o3 gs
             have B3 := B2.grown gs (HGS.out _ B2) (by intro k hk; cases hk; exact Nat.le_refl _)
             clear gs o2 B2)
          | (refine wpList_store_byte rfl (.tmp 44) (.const (.int .u8 127)) rfl 31 127 o3 (by rw [List.length_set, List.length_set, HFI.out]) (Nat.le_refl _) (by rw [List.length_set, List.length_set, HFI.out]; decide) rfl rfl (by decide) ?_; intro w4 o4 gs
             have B4 := B3.grown gs (HGS.out _ B3) (by intro k hk; cases hk; exact Nat.le_refl _)
             rw [small_4] at o4
             obtain ⟨PL, hPL⟩ : ∃ P, P = litB (p25 + 1) 32 := ⟨_, rfl⟩
             rw [← hPL] at o4
             have f_s1 := o4.bs
             have f_s0 := HF0.out.below B4 (Nat.le_refl _)
             have HSH := Lib.hid fun v0 v1 w h0 h1 => small_shared v0 v1 l0 PL w (p25 + 1) (.inr (.inr (.inr (.inr rfl)))) hPL HL0.out h0 h1
             have HLD := Lib.hid (small_all l0 PL (p25 + 1) (.inr (.inr (.inr (.inr rfl)))) hPL).2.2
             have Bx := B4
             clear o4 B4 hPL
             clear gs o3 B3)
          | (go_at_call 16; refine (HSH.out _ _ _ f_s0 f_s1).mono ?_; rintro e w5 ⟨v5, rfl, f_s2, k5⟩
             replace f_s0 := f_s0.below k5 (Nat.le_refl _)
             replace f_s1 := f_s1.below k5 (Nat.le_refl _)
             have B5 := Bx.trans (k5.mono (HGS.out _ Bx))
             clear Bx k5 HSH))
        have B6 := B5.drew
        replace f_s0 := Bs.drew f_s0
        replace f_s1 := Bs.drew f_s1
        replace f_s2 := Bs.drew f_s2
        clear B5
        refine wp_region_po (Keep []) (Keep.refl _) (fun _ _ _ h1 h2 => h1.trans h2) (.rd 0 (.rd 1 (.rd 2 .done))) #[true, true, true, false, false, false, false, false, false, false, false, false, false, false, false, false, false, false, false, false] [3, 4, 5, 6, 7, 8, 9, 10, 11, 12, 13, 14, 15, 16, 17, 18, 19] [some 54, some 55, some 56, some 57, some 58, some 59, some 60, some 61, some 62, some 63, some 64, some 65, some 66, some 67, some 68, some 69, some 4] [[], [0], [1], [2], [3], [4], [4], [4, 5, 6], [4, 7], [4], [4, 9], [4, 8, 10], [4, 11], [7, 12], [13], [13, 14], [0, 1, 2, 3, 4, 5, 6, 7, 8, 9, 10, 11, 12, 13, 14, 15]] [(0, []), (1, [0]), (2, [1]), (3, [2]), (4, [3, 2]), (5, [4, 2]), (6, [2, 5]), (7, [6, 2]), (8, [7]), (9, [7]), (10, [8, 9, 7, 7]), (11, [10, 7]), (12, [7]), (13, [12, 7]), (14, [11, 13, 7]), (15, [7, 14]), (16, [15, 10]), (17, [16, 16]), (18, [16, 17]), (19, [18, 17, 0, 1, 2, 3, 4, 5, 6, 7, 8, 9, 10, 11, 12, 13, 14, 15, 16, 17, 18])] 7 (by kernel_rfl) (by kernel_rfl) (by decide) (by kernel_rfl) (by kernel_rfl) (by kernel_rfl) rfl (fun d _ _ _ _ h => by cases d <;> exact h) ?_
        refine lintz_pure 51 (Op.move (Operand.tmp 8)) 27 ((.int .i64 12)) rfl rfl rfl rfl rfl (fun w0 hb => by unfold mkOp; go_simp; all_goals (with_reducible rfl)) ?_
        simp only [Act.put, List.setIfInBounds_toArray, List.set_cons_zero, List.set_cons_succ]
        refine lintz_pure 52 (Op.binOp BinOp.eql 27 (Operand.tmp 51) (Operand.const (Value.int IntKind.i64 12)) 27) 4 (.bool true) rfl rfl rfl rfl rfl (fun w0 hb => by unfold mkOp; go_simp) ?_
        simp only [Act.put, List.setIfInBounds_toArray, List.set_cons_zero, List.set_cons_succ]
        refine lintz_pure 53 (Op.move (Operand.tmp 52)) 4 (.bool true) rfl rfl rfl rfl rfl (fun w0 hb => by unfold mkOp; go_simp; all_goals (with_reducible rfl)) ?_
        simp only [Act.put, List.setIfInBounds_toArray, List.set_cons_zero, List.set_cons_succ]
        refine lintz_leaf ?_
        have HWF : poWf [.val (v5), .val (.int .i64 ((([] : List UInt8)).length : Int)), .val (.bool true), .val (.bool true), .val (.bool true), .val (.slice ad0 32 c0), .val (.slice (some ⟨w.heap.size, 0, none⟩) 32 32), .own (litB (ladder (ofL (PL)) (clampN (l0))) 32) 17, .val (.string ⟨(litB (ladder (ofL (PL)) (clampN (l0))) 32).toArray⟩), .own (List.replicate 32 0) 17, .val (.string ⟨(List.replicate 32 0).toArray⟩), .val (.bool true), .val (.bool true), .val (.bool true), .val (.bool true), .val (.bool true), .val (.bool true)] [] = true := by kernel_rfl
        refine ⟨JG [.val (v5), .val (.int .i64 ((([] : List UInt8)).length : Int)), .val (.bool true), .val (.bool true), .val (.bool true), .val (.slice ad0 32 c0), .val (.slice (some ⟨w.heap.size, 0, none⟩) 32 32), .own (litB (ladder (ofL (PL)) (clampN (l0))) 32) 17, .val (.string ⟨(litB (ladder (ofL (PL)) (clampN (l0))) 32).toArray⟩), .own (List.replicate 32 0) 17, .val (.string ⟨(List.replicate 32 0).toArray⟩), .val (.bool true), .val (.bool true), .val (.bool true), .val (.bool true), .val (.bool true), .val (.bool true)] [] _, JG.start (Nat.le_refl _) (fun i hi => absurd hi (Nat.not_lt_zero _)), fun m gz wa p az hp hm hmp hcl hdn hE hJ hS hO => ?_, fun gz wa hE hJ => ?_⟩
        · rcases (show p = 0 ∨ p = 1 ∨ p = 2 ∨ p = 3 ∨ p = 4 ∨ p = 5 ∨ p = 6 ∨ p = 7 ∨ p = 8 ∨ p = 9 ∨ p = 10 ∨ p = 11 ∨ p = 12 ∨ p = 13 ∨ p = 14 ∨ p = 15 ∨ p = 16 by have h9 : p < 17 := hp; omega) with rfl | rfl | rfl | rfl | rfl | rfl | rfl | rfl | rfl | rfl | rfl | rfl | rfl | rfl | rfl | rfl | rfl
          · have e53 : az.eval (.tmp 53) = .bool true := hO 53 rfl
            have e7 : az.eval (.tmp 7) = v5 := hO 7 rfl
            exact po_run 54 (Op.move (Operand.tmp 7)) _ HWF hJ rfl hE rfl rfl rfl rfl rfl (wanted_of rfl rfl e53) (by first | (simp only [execOp, mkOp, eval_const, e7]; done) | (simp only [execOp, mkOp, eval_const, e7]; go_simp))
          · have e53 : az.eval (.tmp 53) = .bool true := hO 53 rfl
            have e54 := (hS 0 54 rfl (hdn 0 (by decide)) (Nat.le_of_ble_eq_true rfl)).trans (hJ.says (hdn 0 (by decide)) rfl)
            exact po_run 55 (Op.call { callee := Callee.builtin Builtin.len, args := #[Operand.tmp 54], argTypes := #[22] }) 3 HWF hJ rfl hE rfl rfl rfl rfl rfl (wanted_of rfl rfl e53) (exec_blen _ _ e54 (Bs.below f_s2 (Keep.nil hE) (Nat.le_refl _)))
          · have e53 : az.eval (.tmp 53) = .bool true := hO 53 rfl
            have e55 := (hS 1 55 rfl (hdn 1 (by decide)) (Nat.le_of_ble_eq_true rfl)).trans (hJ.says (hdn 1 (by decide)) rfl)
            exact po_run 56 (Op.binOp BinOp.eql 3 (Operand.tmp 55) (Operand.const (Value.int IntKind.i64 0)) 3) _ HWF hJ rfl hE rfl rfl rfl rfl rfl (wanted_of rfl rfl e53) (by simp only [execOp, mkOp, eval_const, e55]; (simp only [List.length_nil]; go_simp))
          · have e53 : az.eval (.tmp 53) = .bool true := hO 53 rfl
            have e56 := (hS 2 56 rfl (hdn 2 (by decide)) (Nat.le_of_ble_eq_true rfl)).trans (hJ.says (hdn 2 (by decide)) rfl)
            exact po_run 57 (Op.pick (Operand.tmp 53) (Operand.tmp 56) (Operand.const (Value.bool false))) _ HWF hJ rfl hE rfl rfl rfl rfl rfl rfl (by first | (simp only [execOp, mkOp, eval_const, e53, e56]; done) | (simp only [execOp, mkOp, eval_const, e53, e56]; go_simp))
          · have e57 := (hS 3 57 rfl (hdn 3 (by decide)) (Nat.le_of_ble_eq_true rfl)).trans (hJ.says (hdn 3 (by decide)) rfl)
            exact po_run 58 (Op.move (Operand.tmp 57)) _ HWF hJ rfl hE rfl rfl rfl rfl rfl rfl (by first | (simp only [execOp, mkOp, eval_const, e57]; done) | (simp only [execOp, mkOp, eval_const, e57]; go_simp))
          · have e58 := (hS 4 58 rfl (hdn 4 (by decide)) (Nat.le_of_ble_eq_true rfl)).trans (hJ.says (hdn 4 (by decide)) rfl)
            have e0 : az.eval (.tmp 0) = .slice ad0 32 c0 := hO 0 rfl
            exact po_run 59 (Op.move (Operand.tmp 0)) _ HWF hJ rfl hE rfl rfl rfl rfl rfl (wanted_of rfl rfl e58) (by first | (simp only [execOp, mkOp, eval_const, e0]; done) | (simp only [execOp, mkOp, eval_const, e0]; go_simp))
          · have e58 := (hS 4 58 rfl (hdn 4 (by decide)) (Nat.le_of_ble_eq_true rfl)).trans (hJ.says (hdn 4 (by decide)) rfl)
            have e5 : az.eval (.tmp 5) = .slice (some ⟨w.heap.size, 0, none⟩) 32 32 := hO 5 rfl
            exact po_run 60 (Op.move (Operand.tmp 5)) _ HWF hJ rfl hE rfl rfl rfl rfl rfl (wanted_of rfl rfl e58) (by first | (simp only [execOp, mkOp, eval_const, e5]; done) | (simp only [execOp, mkOp, eval_const, e5]; go_simp))
          · have e58 := (hS 4 58 rfl (hdn 4 (by decide)) (Nat.le_of_ble_eq_true rfl)).trans (hJ.says (hdn 4 (by decide)) rfl)
            have e59 := (hS 5 59 rfl (hdn 5 (by decide)) (Nat.le_of_ble_eq_true rfl)).trans (hJ.says (hdn 5 (by decide)) rfl)
            have e60 := (hS 6 60 rfl (hdn 6 (by decide)) (Nat.le_of_ble_eq_true rfl)).trans (hJ.says (hdn 6 (by decide)) rfl)
            exact po_owns 61 12 #[Operand.tmp 59, Operand.tmp 60] #[22, 22] _ HWF hJ rfl hE (mult_any _ _ _ _ _ (Bs.below f_s0 (Keep.nil hE) (Nat.le_refl _)) (Bs.below f_s1 (Keep.nil hE) (Nat.le_refl _))) rfl rfl rfl rfl (wanted_of rfl rfl e58) Try.func12 (by kernel_rfl) (by kernel_rfl) (by simp only [List.map_toArray, List.map_cons, List.map_nil, eval_const, eval_func, e59, e60] <;> rfl)
          · have e58 := (hS 4 58 rfl (hdn 4 (by decide)) (Nat.le_of_ble_eq_true rfl)).trans (hJ.says (hdn 4 (by decide)) rfl)
            have e61 := hS 7 61 rfl (hdn 7 (by decide)) (Nat.le_of_ble_eq_true rfl)
            exact po_run 62 (Op.convert 22 9 (Operand.tmp 61)) 9 HWF hJ rfl hE rfl rfl rfl rfl rfl (wanted_of rfl rfl e58) (exec_str _ _ _ e61 (hJ.own (hdn 7 (by decide)) rfl (po_never hm (Nat.le_refl _))).bs)
          · have e58 := (hS 4 58 rfl (hdn 4 (by decide)) (Nat.le_of_ble_eq_true rfl)).trans (hJ.says (hdn 4 (by decide)) rfl)
            exact po_made 63 (Op.makeSlice 22 (Operand.const (Value.int IntKind.i64 32)) (Operand.const (Value.int IntKind.i64 32))) 22 HWF hJ rfl hE rfl rfl rfl rfl rfl (wanted_of rfl rfl e58) (exec_make32 _ _ _) ((Below.refl _ _).alloc (Nat.le_refl _) _) (made_own _ 32 (by unfold maxLen; omega))
          · have e58 := (hS 4 58 rfl (hdn 4 (by decide)) (Nat.le_of_ble_eq_true rfl)).trans (hJ.says (hdn 4 (by decide)) rfl)
            have e63 := hS 9 63 rfl (hdn 9 (by decide)) (Nat.le_of_ble_eq_true rfl)
            exact po_run 64 (Op.convert 22 9 (Operand.tmp 63)) 9 HWF hJ rfl hE rfl rfl rfl rfl rfl (wanted_of rfl rfl e58) (exec_str _ _ _ e63 (hJ.own (hdn 9 (by decide)) rfl (po_never hm (Nat.le_refl _))).bs)
          · have e58 := (hS 4 58 rfl (hdn 4 (by decide)) (Nat.le_of_ble_eq_true rfl)).trans (hJ.says (hdn 4 (by decide)) rfl)
            have e62 := (hS 8 62 rfl (hdn 8 (by decide)) (Nat.le_of_ble_eq_true rfl)).trans (hJ.says (hdn 8 (by decide)) rfl)
            have e64 := (hS 10 64 rfl (hdn 10 (by decide)) (Nat.le_of_ble_eq_true rfl)).trans (hJ.says (hdn 10 (by decide)) rfl)
            exact po_run 65 (Op.binOp BinOp.eql 9 (Operand.tmp 62) (Operand.tmp 64) 9) _ HWF hJ rfl hE rfl rfl rfl rfl rfl (wanted_of rfl rfl e58) (exec_str_yes _ _ _ _ (HLD.out) e62 e64)
          · have e58 := (hS 4 58 rfl (hdn 4 (by decide)) (Nat.le_of_ble_eq_true rfl)).trans (hJ.says (hdn 4 (by decide)) rfl)
            have e65 := (hS 11 65 rfl (hdn 11 (by decide)) (Nat.le_of_ble_eq_true rfl)).trans (hJ.says (hdn 11 (by decide)) rfl)
            exact po_run 66 (Op.pick (Operand.tmp 58) (Operand.tmp 65) (Operand.const (Value.bool false))) _ HWF hJ rfl hE rfl rfl rfl rfl rfl rfl (by first | (simp only [execOp, mkOp, eval_const, e58, e65]; done) | (simp only [execOp, mkOp, eval_const, e58, e65]; go_simp))
          · have e66 := (hS 12 66 rfl (hdn 12 (by decide)) (Nat.le_of_ble_eq_true rfl)).trans (hJ.says (hdn 12 (by decide)) rfl)
            exact po_run 67 (Op.move (Operand.tmp 66)) _ HWF hJ rfl hE rfl rfl rfl rfl rfl rfl (by first | (simp only [execOp, mkOp, eval_const, e66]; done) | (simp only [execOp, mkOp, eval_const, e66]; go_simp))
          · have e67 := (hS 13 67 rfl (hdn 13 (by decide)) (Nat.le_of_ble_eq_true rfl)).trans (hJ.says (hdn 13 (by decide)) rfl)
            exact po_call 68 9 #[] #[] _ HWF hJ rfl hE (awake6_any _) rfl rfl rfl rfl (wanted_of rfl rfl e67) Try.func9 (by kernel_rfl) (by kernel_rfl) (by simp only [List.map_toArray, List.map_cons, List.map_nil, eval_const, eval_func] <;> rfl)
          · have e67 := (hS 13 67 rfl (hdn 13 (by decide)) (Nat.le_of_ble_eq_true rfl)).trans (hJ.says (hdn 13 (by decide)) rfl)
            have e68 := (hS 14 68 rfl (hdn 14 (by decide)) (Nat.le_of_ble_eq_true rfl)).trans (hJ.says (hdn 14 (by decide)) rfl)
            exact po_run 69 (Op.pick (Operand.tmp 67) (Operand.tmp 68) (Operand.const (Value.bool false))) _ HWF hJ rfl hE rfl rfl rfl rfl rfl rfl (by first | (simp only [execOp, mkOp, eval_const, e67, e68]; done) | (simp only [execOp, mkOp, eval_const, e67, e68]; go_simp))
          · have e69 := (hS 15 69 rfl (hdn 15 (by decide)) (Nat.le_of_ble_eq_true rfl)).trans (hJ.says (hdn 15 (by decide)) rfl)
            exact po_run 4 (Op.assign (Operand.tmp 69)) _ HWF hJ rfl hE rfl rfl rfl rfl rfl rfl (by first | (simp only [execOp, mkOp, eval_const, e69]; done) | (simp only [execOp, mkOp, eval_const, e69]; go_simp))
        · have q0 := hJ.told 0 (by decide) rfl
          have q1 := hJ.told 1 (by decide) rfl
          have q2 := hJ.told 2 (by decide) rfl
          have q3 := hJ.told 3 (by decide) rfl
          have q4 := hJ.told 4 (by decide) rfl
          have q5 := hJ.told 5 (by decide) rfl
          have q6 := hJ.told 6 (by decide) rfl
          have q8 := hJ.told 8 (by decide) rfl
          have q10 := hJ.told 10 (by decide) rfl
          have q11 := hJ.told 11 (by decide) rfl
          have q12 := hJ.told 12 (by decide) rfl
          have q13 := hJ.told 13 (by decide) rfl
          have q14 := hJ.told 14 (by decide) rfl
          have q15 := hJ.told 15 (by decide) rfl
          have q16 := hJ.told 16 (by decide) rfl
          show PoEnd _ (Act.put (Act.put (Act.put (Act.put (Act.put (Act.put (Act.put (Act.put (Act.put (Act.put (Act.put (Act.put (Act.put (Act.put (Act.put (Act.put (Act.put _ (some 54) (gz 0)) (some 55) (gz 1)) (some 56) (gz 2)) (some 57) (gz 3)) (some 58) (gz 4)) (some 59) (gz 5)) (some 60) (gz 6)) (some 61) (gz 7)) (some 62) (gz 8)) (some 63) (gz 9)) (some 64) (gz 10)) (some 65) (gz 11)) (some 66) (gz 12)) (some 67) (gz 13)) (some 68) (gz 14)) (some 69) (gz 15)) (some 4) (gz 16)) wa
          rw [q0, q1, q2, q3, q4, q5, q6, q8, q10, q11, q12, q13, q14, q15, q16]
          simp only [Act.put, List.setIfInBounds_toArray, List.set_cons_zero, List.set_cons_succ]
          refine po_end ?_
          replace f_s0 := Bs.below f_s0 (Keep.nil hE) (Nat.le_refl _)
          replace f_s1 := Bs.below f_s1 (Keep.nil hE) (Nat.le_refl _)
          replace f_s2 := Bs.below f_s2 (Keep.nil hE) (Nat.le_refl _)
          have B7 := hE.below B6 (HGS.out _ B6) rfl
          clear B6 hE hJ HWF q0 q1 q2 q3 q4 q5 q6 q8 q10 q11 q12 q13 q14 q15 q16
          go_wp2
          go_ret
          exact ⟨rfl, B7⟩
  · have q0 : ¬ (n0 : Int) = 32 := by omega
    clear h0 hB0 d0 e0
    go_enter Try.func7, Try.ntmps7
    go_wp2_with (go_at_call 9; refine (awake6_any _).mono ?_; rintro e w9 ⟨rfl, hb9⟩)
    go_ret
    exact ⟨rfl, hb9⟩
end Go.Proofs.Ytnoppemclfnlcaa
