/- MacShorter, walked. -/
import Derived.Test.YtladojcbbhphfaaMacW
import Derived.Test.YtladojcbbhphfaaMacR
import Derived.Test.YtladojcbbhphfaaLint
namespace Go.Proofs.Ytladojcbbhphfaa
open Go.RowKit Go.Deep

theorem Owns.zeros (w : World) (k : Nat) (hk : k ≤ maxLen) : Owns (w.alloc (.cells (madeCells #[.int .u8 0] k) 5)) w.heap.size (.slice (some ⟨w.heap.size, 0, none⟩) k k) (List.replicate k 0) := by
  have h := World.ownsRow_lit (e := 5) (base := w.heap.size) (size := 1) w (madeCells #[.int .u8 0] k) k (Nat.le_refl _) hk (by rw [size_madeCells, Nat.mul_one])
  rw [toList_madeCells_one] at h
  unfold Owns
  have e : u8s (List.replicate k 0) = List.replicate k (.int .u8 0) := by simp [u8s]
  rw [e, List.length_replicate]
  exact h
theorem run_zeros (w : World) (k : Nat) (hk : k ≤ 2147483647) : (Instr.makeSlice 22 (.int .i64 (k : Int)) (.int .i64 (k : Int))).run Try.prog w = .ok (.slice (some ⟨w.heap.size, 0, none⟩) k k) (w.alloc (.cells (madeCells #[.int .u8 0] k) 5)) :=
  run_make_row' (P := Try.prog) 22 5 (.int .u8 0) 1 Try.underlying22 Try.info5 rfl .i64 .i64 k (by omega) (by omega) w
theorem stp_zeros {ops : Array Oper} {Q : Exit → Act → World → Prop} {i : Nat} {r : Stp} {a : Act} {w : World} {o : Oper} (d k : Nat) (t : TypeId) (ho : ops[i]? = some o) (hd : o.dst = some d) (hop : o.op = .makeSlice 22 (.const (.int .i64 (k : Int))) (.const (.int .i64 (k : Int)))) (ht : o.type = t)
    (hw : Region.wanted o (yielded ops a.tmps) = true) (hk : k ≤ 2147483647)
    (h : ∀ w' v, Bs w' v (List.replicate k 0) → Below w.heap.size w w' → LinT Try.prog ops Q r (a.put (some d) v) w') : wpOp Try.prog ops Q i (fun a' w' => Below w.heap.size w w' ∧ LinT Try.prog ops Q r a' w') a w := by
  have hb : Below w.heap.size w (w.alloc (.cells (madeCells #[.int .u8 0] k) 5)) := (Below.refl _ _).alloc (Nat.le_refl _) _
  have hrun := run_zeros w k hk
  refine stp_made d _ t _ _ ho hd hop ht hw ?_ hb (h _ _ (Owns.zeros w k (by unfold maxLen; omega)).bs hb)
  have e : a.eval (.const (.int .i64 (k : Int))) = .int .i64 (k : Int) := rfl
  simp [execOp, mkOp, e, hrun, Result.andThen]
theorem exec_bsTo {w : World} (ρ : Operand → Value) (x hi : Operand) (t : TypeId) {ad : Option Addr} {n cap : Nat} {l : List UInt8} (hB : Bs w (.slice ad n cap) l) (h : Nat) {i : Int}
    (hx : ρ x = .slice ad n cap) (hhi : ρ hi = .int .i64 i) (hih : i = (h : Int)) (hh : h ≤ n) (h0 : 0 < n) :
    (execOp ρ (mkOp (.slice 22 x none (some hi) none) t)).run Try.prog w = .ok (.value (.slice ad h cap)) w := by
  have hrun := run_bsTo hB h hh h0
  subst hih
  simp [execOp, mkOp, hx, hhi, hrun, Result.andThen]

set_option maxHeartbeats 16000000 in
set_option maxRecDepth 100000 in
theorem law_macShorter (w : World) (v0 : Value) (salt : List UInt8) (h0 : Bs w v0 salt) (v1 : Value) (ikm : List UInt8) (h1 : Bs w v1 ikm) (v2 : Value) (info : List UInt8) (h2 : Bs w v2 info) (n : Int) (hn : (Lit.int .i64 n).wf = true) (m : Int) (hm : (Lit.int .i64 m).wf = true) :
    Calls Try.prog 5 #[v0, v1, v2, .int .i64 n, .int .i64 m] w fun e w' => e = .returned (.bool true) ∧ Below w.heap.size w w' := by
  obtain ⟨a0, n0, c0, rfl, e0, f0, g0, hB0⟩ := h0.shape
  obtain ⟨a1, n1, c1, rfl, e1, f1, g1, hB1⟩ := h1.shape
  obtain ⟨a2, n2, c2, rfl, e2, f2, g2, hB2⟩ := h2.shape
  have H0 := Lib.hid hB0
  have H1 := Lib.hid hB1
  have H2 := Lib.hid hB2
  have E0 := Lib.hid e0
  have E1 := Lib.hid e1
  have E2 := Lib.hid e2
  have HNW := Lib.hid hn
  have HMW := Lib.hid hm
  clear h0 h1 h2 hB0 hB1 hB2 e0 e1 e2 hn hm
  go_enter Try.func5, Try.ntmps5
  by_cases d0 : (300 : Int) < (n0 : Int)
  · go_wp2_with (go_at_call 7; refine (awake4_any _).mono ?_; rintro e w9 ⟨rfl, hb9⟩)
    go_ret
    exact ⟨rfl, hb9⟩
  by_cases d1 : (300 : Int) < (n1 : Int)
  · go_wp2_with (go_at_call 7; refine (awake4_any _).mono ?_; rintro e w9 ⟨rfl, hb9⟩)
    go_ret
    exact ⟨rfl, hb9⟩
  by_cases d2 : (300 : Int) < (n2 : Int)
  · go_wp2_with (go_at_call 7; refine (awake4_any _).mono ?_; rintro e w9 ⟨rfl, hb9⟩)
    go_ret
    exact ⟨rfl, hb9⟩
  by_cases d3 : n < 1
  · go_wp2_with (go_at_call 7; refine (awake4_any _).mono ?_; rintro e w9 ⟨rfl, hb9⟩)
    go_ret
    exact ⟨rfl, hb9⟩
  by_cases d4 : m < n
  · go_wp2_with (go_at_call 7; refine (awake4_any _).mono ?_; rintro e w9 ⟨rfl, hb9⟩)
    go_ret
    exact ⟨rfl, hb9⟩
  by_cases d5 : (300 : Int) < m
  · go_wp2_with (go_at_call 7; refine (awake4_any _).mono ?_; rintro e w9 ⟨rfl, hb9⟩)
    go_ret
    exact ⟨rfl, hb9⟩
  obtain ⟨nn, rfl⟩ : ∃ nn : Nat, n = (nn : Int) := ⟨n.toNat, by omega⟩
  obtain ⟨mm, rfl⟩ : ∃ mm : Nat, m = (mm : Int) := ⟨m.toNat, by omega⟩
  have hl0 : salt.length ≤ 300 := by have := E0.out; omega
  have hl1 : ikm.length ≤ 300 := by have := E1.out; omega
  have hl2 : info.length ≤ 300 := by have := E2.out; omega
  have HL0 := Lib.hid hl0
  have HL1 := Lib.hid hl1
  have HL2 := Lib.hid hl2
  have hnm : nn ≤ mm := by omega
  have hm3 : mm ≤ 300 := by omega
  have hn1 : 1 ≤ nn := by omega
  have hDn : (deriveL salt ikm info (nn : Int)).length = nn := by unfold deriveL; rw [expandL_length _ _ _ (by omega)]; omega
  have hDm : (deriveL salt ikm info (mm : Int)).length = mm := by unfold deriveL; rw [expandL_length _ _ _ (by omega)]; omega
  have hDT : (deriveL salt ikm info (mm : Int)).take nn = deriveL salt ikm info (nn : Int) := by
    unfold deriveL
    rw [expandL_in _ _ _ (by omega), expandL_in _ _ _ (by omega)]
    exact hkdfL_take _ _ _ _ (by omega)
  have HDN := Lib.hid hDn
  have HDM := Lib.hid hDm
  have HDT := Lib.hid hDT
  have hmk := run_zeros w 65 (by omega)
  rw [show ((65 : Nat) : Int) = 65 from rfl] at hmk
  have hZ := Lib.hid (Owns.zeros w 65 (by unfold maxLen; omega))
  have hbz : Below w.heap.size w (w.alloc (.cells (madeCells #[.int .u8 0] 65) 5)) := (Below.refl _ _).alloc (Nat.le_refl _) _
  have HZ0 := Lib.hid (H0.out.below hbz (Nat.le_refl _))
  generalize hcells : (Obj.cells (madeCells #[.int .u8 0] 65) 5) = cells at *
  clear hcells hDn hDm hDT hl0 hl1 hl2
  go_wp2_with (first
    | (refine wpList_app rfl (.tmp 42) (.tmp 43) rfl w.heap.size _ _ (List.replicate 65 0) salt hZ.out HZ0.out rfl rfl (by have := HL0.out; simp only [List.length_replicate]; omega) hbz.size ?_; intro v3 w3 hO3 hg3
       have hb3 : Below w.heap.size w w3 := hbz.grown hg3 hbz.size (Owns.block hZ.out)
       clear hg3)
    | (go_at_call 13
       first
         | (refine (derive_any _ _ _ salt ikm info (nn : Int) _ (H0.out.below hb3 (Nat.le_refl _)) (by have := HL0.out; omega) (H1.out.below hb3 (Nat.le_refl _)) (by have := HL1.out; omega) (H2.out.below hb3 (Nat.le_refl _)) (by have := HL2.out; omega) HNW.out).mono ?_; rintro e w4 ⟨v4, rfl, hB4, hb4⟩
            have hb04 := hb3.trans (hb4.mono hb3.size)
            have hO4 := hO3.below hb4
            clear hO3 hb4 hb3
            obtain ⟨a12, n12, c12, rfl, e12, f12, g12, hB4⟩ := hB4.shape
            obtain rfl : nn = n12 := by rw [← e12, HDN.out]
            clear e12)
         | (refine (derive_any _ _ _ salt ikm info (mm : Int) _ (H0.out.below hb04 (Nat.le_refl _)) (by have := HL0.out; omega) (H1.out.below hb04 (Nat.le_refl _)) (by have := HL1.out; omega) (H2.out.below hb04 (Nat.le_refl _)) (by have := HL2.out; omega) HMW.out).mono ?_; rintro e w5 ⟨v5, rfl, hB5, hb5⟩
            have hb05 := hb04.trans (hb5.mono hb04.size)
            have hO5 := hO4.below hb5
            have hA5 := hB4.below hb5 (Nat.le_refl _)
            clear hO4 hB4 hb5
            obtain ⟨a13, n13, c13, rfl, e13, f13, g13, hB5⟩ := hB5.shape
            obtain rfl : mm = n13 := by rw [← e13, HDM.out]
            clear e13))
    | (go_at_call 14; refine (extract_any _ _ [] ikm _ (Bs.nil _) (by decide) (H1.out.below hb05 (Nat.le_refl _)) (by have := HL1.out; omega)).mono ?_; rintro e w6 ⟨v6, rfl, hB6, hb6⟩
       have hb06 := hb05.trans (hb6.mono hb05.size)
       have hO6 := hO5.below hb6
       have hA6 := hA5.below hb6 (Nat.le_refl _)
       have hB56 := hB5.below hb6 (Nat.le_refl _)
       clear hO5 hA5 hB5 hb6))
  have bd : Below w6.heap.size w6 w6.drew := Below.drew (Below.refl _ _)
  have HA : Bs w6.drew _ (deriveL salt ikm info (nn : Int)) := hA6.below bd (Nat.le_refl _)
  have HBB : Bs w6.drew (.slice a13 mm c13) (deriveL salt ikm info (mm : Int)) := hB56.below bd (Nat.le_refl _)
  have HT : Bs w6.drew (.slice a13 nn c13) (deriveL salt ikm info (nn : Int)) := by rw [← HDT.out]; exact HBB.take hnm
  have HC : Bs w6.drew _ (hmac [] ikm) := hB6.below bd (Nat.le_refl _)
  obtain ⟨lg, hlg⟩ : ∃ lg, lg = List.replicate 65 (0 : UInt8) ++ salt := ⟨_, rfl⟩
  have hlgl : lg.length = 65 + salt.length := by rw [hlg, List.length_append, List.length_replicate]
  have HL : Bs w6.drew v3 lg := by rw [hlg]; exact hO6.bs.below bd (Nat.le_refl _)
  have HI : Bs w6.drew _ ikm := (H1.out.below hb06 (Nat.le_refl _)).below bd (Nat.le_refl _)
  have B : Below w.heap.size w w6.drew := hb06.trans (bd.mono hb06.size)
  have HFL : Hid (([ikm] : List (List UInt8)).flatten = ikm) := Lib.hid (by simp only [List.flatten_cons, List.flatten_nil, List.append_nil])
  have HFL2 : Hid (([ikm] : List (List UInt8)).flatten.length < 2 ^ 58) := Lib.hid (by rw [HFL.out]; have := HL1.out; omega)
  have hl0 := HL0.out
  have hl1 := HL1.out
  clear hA6 hB56 hB6 hO6 hlg bd hZ HZ0 hbz hmk hb04 hb05 hb06
  refine wp_region_lint (.rd 0 (.rd 1 (.rd 2 (.rd 3 (.rd 4 (.rd 5 (.rd 6 (.rd 7 (.rd 8 (.rd 9 (.rd 10 (.rd 11 (.rd 12 (.rd 13 (.rd 14 (.rd 15 (.rd 16 (.rd 17 (.rd 18 (.rd 19 (.rd 20 (.rd 21 (.rd 23 (.wr 22 (.wr 24 (.rd 25 (.rd 26 (.rd 27 (.rd 28 (.rd 29 (.rd 30 (.rd 34 (.rd 36 (.br 31 (.br 32 (.rd 33 (.br 35 (.wr 37 (.wr 38 (.rd 39 (.rd 40 (.rd 41 (.rd 42 (.wr 43 (.rd 44 (.rd 45 .done))))))))) 37 (.wr 35 (.wr 38 (.rd 39 (.rd 40 (.rd 41 (.rd 42 (.wr 43 (.rd 44 (.rd 45 .done))))))))))) 37 (.wr 32 (.rd 33 (.wr 35 (.wr 38 (.rd 39 (.rd 40 (.rd 41 (.rd 42 (.wr 43 (.rd 44 (.rd 45 .done)))))))))))) 37 (.wr 31 (.wr 32 (.rd 33 (.wr 35 (.wr 38 (.rd 39 (.rd 40 (.rd 41 (.rd 42 (.wr 43 (.rd 44 (.rd 45 .done)))))))))))))))))))))))))))))))))))))))))))))) (by kernel_rfl) (by kernel_rfl) (by decide) (by kernel_rfl) (fun d _ _ _ _ h => by cases d <;> exact h) ?_
  refine lint_pure 57 (Op.move (Operand.tmp 12)) 22 _ rfl rfl rfl rfl rfl (fun w0 hb0 => by unfold mkOp; go_simp; all_goals (with_reducible rfl)) ?_
  simp only [Act.put, List.setIfInBounds_toArray, List.set_cons_zero, List.set_cons_succ]
  refine lint_pure 58 (Op.call { callee := Callee.builtin Builtin.len, args := #[Operand.tmp 57], argTypes := #[22] }) 3 _ rfl rfl rfl rfl rfl (fun w0 hb0 => by unfold mkOp; go_simp; all_goals (with_reducible rfl)) ?_
  simp only [Act.put, List.setIfInBounds_toArray, List.set_cons_zero, List.set_cons_succ]
  refine lint_pure 59 (Op.move (Operand.tmp 3)) 3 _ rfl rfl rfl rfl rfl (fun w0 hb0 => by unfold mkOp; go_simp; all_goals (with_reducible rfl)) ?_
  simp only [Act.put, List.setIfInBounds_toArray, List.set_cons_zero, List.set_cons_succ]
  refine lint_pure 60 (Op.binOp BinOp.eql 3 (Operand.tmp 58) (Operand.tmp 59) 3) 4 _ rfl rfl rfl rfl rfl (fun w0 hb0 => by unfold mkOp; go_simp; all_goals (with_reducible rfl)) ?_
  simp only [Act.put, List.setIfInBounds_toArray, List.set_cons_zero, List.set_cons_succ]
  refine lint_pure 61 (Op.move (Operand.tmp 60)) 4 _ rfl rfl rfl rfl rfl (fun w0 hb0 => by unfold mkOp; go_simp; all_goals (with_reducible rfl)) ?_
  simp only [Act.put, List.setIfInBounds_toArray, List.set_cons_zero, List.set_cons_succ]
  refine lint_pure 62 (Op.move (Operand.tmp 13)) 22 _ rfl rfl rfl rfl rfl (fun w0 hb0 => by unfold mkOp; go_simp; all_goals (with_reducible rfl)) ?_
  simp only [Act.put, List.setIfInBounds_toArray, List.set_cons_zero, List.set_cons_succ]
  refine lint_pure 63 (Op.call { callee := Callee.builtin Builtin.len, args := #[Operand.tmp 62], argTypes := #[22] }) 3 _ rfl rfl rfl rfl rfl (fun w0 hb0 => by unfold mkOp; go_simp; all_goals (with_reducible rfl)) ?_
  simp only [Act.put, List.setIfInBounds_toArray, List.set_cons_zero, List.set_cons_succ]
  refine lint_pure 64 (Op.move (Operand.tmp 4)) 3 _ rfl rfl rfl rfl rfl (fun w0 hb0 => by unfold mkOp; go_simp; all_goals (with_reducible rfl)) ?_
  simp only [Act.put, List.setIfInBounds_toArray, List.set_cons_zero, List.set_cons_succ]
  refine lint_pure 65 (Op.binOp BinOp.eql 3 (Operand.tmp 63) (Operand.tmp 64) 3) 4 _ rfl rfl rfl rfl rfl (fun w0 hb0 => by unfold mkOp; go_simp; all_goals (with_reducible rfl)) ?_
  simp only [Act.put, List.setIfInBounds_toArray, List.set_cons_zero, List.set_cons_succ]
  refine lint_pure 66 (Op.pick (Operand.tmp 61) (Operand.tmp 65) (Operand.const (Value.bool false))) 4 _ rfl rfl rfl rfl rfl (fun w0 hb0 => by unfold mkOp; go_simp; all_goals (with_reducible rfl)) ?_
  simp only [Act.put, List.setIfInBounds_toArray, List.set_cons_zero, List.set_cons_succ]
  refine lint_pure 67 (Op.move (Operand.tmp 66)) 4 _ rfl rfl rfl rfl rfl (fun w0 hb0 => by unfold mkOp; go_simp; all_goals (with_reducible rfl)) ?_
  simp only [Act.put, List.setIfInBounds_toArray, List.set_cons_zero, List.set_cons_succ]
  refine lint_pure 68 (Op.move (Operand.tmp 13)) 22 _ rfl rfl rfl rfl rfl (fun w0 hb0 => by unfold mkOp; go_simp; all_goals (with_reducible rfl)) ?_
  simp only [Act.put, List.setIfInBounds_toArray, List.set_cons_zero, List.set_cons_succ]
  refine lint_pure 69 (Op.move (Operand.tmp 3)) 3 _ rfl rfl rfl rfl rfl (fun w0 hb0 => by unfold mkOp; go_simp; all_goals (with_reducible rfl)) ?_
  simp only [Act.put, List.setIfInBounds_toArray, List.set_cons_zero, List.set_cons_succ]
  refine lint_pure 70 (Op.slice 22 (Operand.tmp 68) none (some (Operand.tmp 69)) none) 22 (.slice a13 nn c13) rfl rfl rfl rfl rfl (fun w0 hb0 => by exact exec_bsTo _ _ _ _ (HBB.below hb0 (Nat.le_refl _)) nn rfl rfl rfl (by omega) (by omega)) ?_
  simp only [Act.put, List.setIfInBounds_toArray, List.set_cons_zero, List.set_cons_succ]
  refine lint_conv 71 (Operand.tmp 70) _ _ rfl rfl rfl rfl rfl HT ?_
  simp only [Act.put, List.setIfInBounds_toArray, List.set_cons_zero, List.set_cons_succ]
  refine lint_pure 72 (Op.move (Operand.tmp 12)) 22 _ rfl rfl rfl rfl rfl (fun w0 hb0 => by unfold mkOp; go_simp; all_goals (with_reducible rfl)) ?_
  simp only [Act.put, List.setIfInBounds_toArray, List.set_cons_zero, List.set_cons_succ]
  refine lint_conv 73 (Operand.tmp 72) _ _ rfl rfl rfl rfl rfl HA ?_
  simp only [Act.put, List.setIfInBounds_toArray, List.set_cons_zero, List.set_cons_succ]
  refine lint_pure 74 (Op.binOp BinOp.eql 9 (Operand.tmp 71) (Operand.tmp 73) 9) 4 _ rfl rfl rfl rfl rfl (fun w0 hb0 => by unfold mkOp; go_simp; all_goals (with_reducible rfl)) ?_
  simp only [Act.put, List.setIfInBounds_toArray, List.set_cons_zero, List.set_cons_succ]
  refine lint_pure 75 (Op.pick (Operand.tmp 67) (Operand.tmp 74) (Operand.const (Value.bool false))) 4 _ rfl rfl rfl rfl rfl (fun w0 hb0 => by unfold mkOp; go_simp; all_goals (with_reducible rfl)) ?_
  simp only [Act.put, List.setIfInBounds_toArray, List.set_cons_zero, List.set_cons_succ]
  refine lint_pure 76 (Op.move (Operand.tmp 75)) 4 _ rfl rfl rfl rfl rfl (fun w0 hb0 => by unfold mkOp; go_simp; all_goals (with_reducible rfl)) ?_
  simp only [Act.put, List.setIfInBounds_toArray, List.set_cons_zero, List.set_cons_succ]
  refine lint_pure 77 (Op.move (Operand.tmp 14)) 22 _ rfl rfl rfl rfl rfl (fun w0 hb0 => by unfold mkOp; go_simp; all_goals (with_reducible rfl)) ?_
  simp only [Act.put, List.setIfInBounds_toArray, List.set_cons_zero, List.set_cons_succ]
  refine lint_conv 78 (Operand.tmp 77) _ _ rfl rfl rfl rfl rfl HC ?_
  simp only [Act.put, List.setIfInBounds_toArray, List.set_cons_zero, List.set_cons_succ]
  refine lint_pure 80 (Op.move (Operand.tmp 1)) 22 _ rfl rfl rfl rfl rfl (fun w0 hb0 => by unfold mkOp; go_simp; all_goals (with_reducible rfl)) ?_
  simp only [Act.put, List.setIfInBounds_toArray, List.set_cons_zero, List.set_cons_succ]
  refine stp_zeros 79 32 22 rfl rfl rfl rfl rfl (by omega) ?_
  intro w79 v79 HZ b79
  replace B := B.trans (Below.mono b79 B.size)
  (try replace HA := Bs.below HA b79 (Nat.le_refl _))
  (try replace HBB := Bs.below HBB b79 (Nat.le_refl _))
  (try replace HT := Bs.below HT b79 (Nat.le_refl _))
  (try replace HC := Bs.below HC b79 (Nat.le_refl _))
  (try replace HL := Bs.below HL b79 (Nat.le_refl _))
  (try replace HI := Bs.below HI b79 (Nat.le_refl _))
  (try replace HS1 := Bs.below HS1 b79 (Nat.le_refl _))
  (try replace HS2 := Bs.below HS2 b79 (Nat.le_refl _))
  (try replace HS3 := Bs.below HS3 b79 (Nat.le_refl _))
  (try replace HS4 := Bs.below HS4 b79 (Nat.le_refl _))
  (try replace HR1 := Bss.below HR1 b79 (Nat.le_refl _))
  (try replace HR2 := Bss.below HR2 b79 (Nat.le_refl _))
  simp only [Act.put, List.setIfInBounds_toArray, List.set_cons_zero, List.set_cons_succ]
  refine stp_fn 81 14 #[Operand.tmp 79, Operand.tmp 80] #[22, 22] _ (extract_any _ _ (List.replicate 32 0) ikm _ HZ (by simp) HI (by omega)) rfl rfl rfl rfl Try.func14 (by kernel_rfl) (by kernel_rfl) (by go_simp) ?_
  rintro e w81 ⟨v81, rfl, HS1, b81⟩
  rw [hmac_noughts] at HS1
  replace B := B.trans (Below.mono b81 B.size)
  (try replace HA := Bs.below HA b81 (Nat.le_refl _))
  (try replace HBB := Bs.below HBB b81 (Nat.le_refl _))
  (try replace HT := Bs.below HT b81 (Nat.le_refl _))
  (try replace HC := Bs.below HC b81 (Nat.le_refl _))
  (try replace HL := Bs.below HL b81 (Nat.le_refl _))
  (try replace HI := Bs.below HI b81 (Nat.le_refl _))
  (try replace HZ := Bs.below HZ b81 (Nat.le_refl _))
  (try replace HS2 := Bs.below HS2 b81 (Nat.le_refl _))
  (try replace HS3 := Bs.below HS3 b81 (Nat.le_refl _))
  (try replace HS4 := Bs.below HS4 b81 (Nat.le_refl _))
  (try replace HR1 := Bss.below HR1 b81 (Nat.le_refl _))
  (try replace HR2 := Bss.below HR2 b81 (Nat.le_refl _))
  refine ⟨_, rfl, b81, ?_⟩
  simp only [Act.put, List.setIfInBounds_toArray, List.set_cons_zero, List.set_cons_succ]
  refine lint_conv 82 (Operand.tmp 81) _ _ rfl rfl rfl rfl rfl HS1 ?_
  simp only [Act.put, List.setIfInBounds_toArray, List.set_cons_zero, List.set_cons_succ]
  refine lint_pure 83 (Op.binOp BinOp.eql 9 (Operand.tmp 78) (Operand.tmp 82) 9) 4 _ rfl rfl rfl rfl rfl (fun w0 hb0 => by unfold mkOp; go_simp; all_goals (with_reducible rfl)) ?_
  simp only [Act.put, List.setIfInBounds_toArray, List.set_cons_zero, List.set_cons_succ]
  refine lint_pure 84 (Op.pick (Operand.tmp 76) (Operand.tmp 83) (Operand.const (Value.bool false))) 4 _ rfl rfl rfl rfl rfl (fun w0 hb0 => by unfold mkOp; go_simp; all_goals (with_reducible rfl)) ?_
  simp only [Act.put, List.setIfInBounds_toArray, List.set_cons_zero, List.set_cons_succ]
  refine lint_pure 85 (Op.move (Operand.tmp 84)) 4 _ rfl rfl rfl rfl rfl (fun w0 hb0 => by unfold mkOp; go_simp; all_goals (with_reducible rfl)) ?_
  simp only [Act.put, List.setIfInBounds_toArray, List.set_cons_zero, List.set_cons_succ]
  refine lint_pure 86 (Op.move (Operand.tmp 11)) 22 _ rfl rfl rfl rfl rfl (fun w0 hb0 => by unfold mkOp; go_simp; all_goals (with_reducible rfl)) ?_
  simp only [Act.put, List.setIfInBounds_toArray, List.set_cons_zero, List.set_cons_succ]
  refine lint_pure 87 (Op.move (Operand.tmp 1)) 22 _ rfl rfl rfl rfl rfl (fun w0 hb0 => by unfold mkOp; go_simp; all_goals (with_reducible rfl)) ?_
  simp only [Act.put, List.setIfInBounds_toArray, List.set_cons_zero, List.set_cons_succ]
  refine lint_pure 91 (Op.move (Operand.tmp 11)) 22 _ rfl rfl rfl rfl rfl (fun w0 hb0 => by unfold mkOp; go_simp; all_goals (with_reducible rfl)) ?_
  simp only [Act.put, List.setIfInBounds_toArray, List.set_cons_zero, List.set_cons_succ]
  refine lint_pure 93 (Op.move (Operand.tmp 1)) 22 _ rfl rfl rfl rfl rfl (fun w0 hb0 => by unfold mkOp; go_simp; all_goals (with_reducible rfl)) ?_
  simp only [Act.put, List.setIfInBounds_toArray, List.set_cons_zero, List.set_cons_succ]
  refine ⟨?_, ?_⟩
  · skip
    refine stp_rows1 88 (.tmp 87) _ rfl rfl rfl rfl rfl HI rfl ?_
    intro w88 v88 HR1 b88
    replace B := B.trans (Below.mono b88 B.size)
    (try replace HA := Bs.below HA b88 (Nat.le_refl _))
    (try replace HBB := Bs.below HBB b88 (Nat.le_refl _))
    (try replace HT := Bs.below HT b88 (Nat.le_refl _))
    (try replace HC := Bs.below HC b88 (Nat.le_refl _))
    (try replace HL := Bs.below HL b88 (Nat.le_refl _))
    (try replace HI := Bs.below HI b88 (Nat.le_refl _))
    (try replace HZ := Bs.below HZ b88 (Nat.le_refl _))
    (try replace HS1 := Bs.below HS1 b88 (Nat.le_refl _))
    (try replace HS2 := Bs.below HS2 b88 (Nat.le_refl _))
    (try replace HS3 := Bs.below HS3 b88 (Nat.le_refl _))
    (try replace HS4 := Bs.below HS4 b88 (Nat.le_refl _))
    (try replace HR2 := Bss.below HR2 b88 (Nat.le_refl _))
    simp only [Act.put, List.setIfInBounds_toArray, List.set_cons_zero, List.set_cons_succ]
    refine ⟨?_, ?_⟩
    · skip
      refine stp_fn 89 12 #[Operand.tmp 86, Operand.tmp 88] #[22, 23] _ (mac_any _ _ lg [ikm] _ HL (by omega) HR1 HFL2.out) rfl rfl rfl rfl Try.func12 (by kernel_rfl) (by kernel_rfl) (by go_simp) ?_
      rintro e w89 ⟨v89, rfl, HS2, b89⟩
      rw [HFL.out] at HS2
      replace B := B.trans (Below.mono b89 B.size)
      (try replace HA := Bs.below HA b89 (Nat.le_refl _))
      (try replace HBB := Bs.below HBB b89 (Nat.le_refl _))
      (try replace HT := Bs.below HT b89 (Nat.le_refl _))
      (try replace HC := Bs.below HC b89 (Nat.le_refl _))
      (try replace HL := Bs.below HL b89 (Nat.le_refl _))
      (try replace HI := Bs.below HI b89 (Nat.le_refl _))
      (try replace HZ := Bs.below HZ b89 (Nat.le_refl _))
      (try replace HS1 := Bs.below HS1 b89 (Nat.le_refl _))
      (try replace HS3 := Bs.below HS3 b89 (Nat.le_refl _))
      (try replace HS4 := Bs.below HS4 b89 (Nat.le_refl _))
      (try replace HR1 := Bss.below HR1 b89 (Nat.le_refl _))
      (try replace HR2 := Bss.below HR2 b89 (Nat.le_refl _))
      refine ⟨_, rfl, b89, ?_⟩
      simp only [Act.put, List.setIfInBounds_toArray, List.set_cons_zero, List.set_cons_succ]
      refine lint_conv 90 (Operand.tmp 89) _ _ rfl rfl rfl rfl rfl HS2 ?_
      simp only [Act.put, List.setIfInBounds_toArray, List.set_cons_zero, List.set_cons_succ]
      refine ⟨?_, ?_⟩
      · skip
        refine stp_fn 92 18 #[Operand.tmp 91] #[22] _ (ref256_any _ lg _ HL (by omega)) rfl rfl rfl rfl Try.func18 (by kernel_rfl) (by kernel_rfl) (by go_simp) ?_
        rintro e w92 ⟨v92, rfl, HS3, b92⟩
        replace B := B.trans (Below.mono b92 B.size)
        (try replace HA := Bs.below HA b92 (Nat.le_refl _))
        (try replace HBB := Bs.below HBB b92 (Nat.le_refl _))
        (try replace HT := Bs.below HT b92 (Nat.le_refl _))
        (try replace HC := Bs.below HC b92 (Nat.le_refl _))
        (try replace HL := Bs.below HL b92 (Nat.le_refl _))
        (try replace HI := Bs.below HI b92 (Nat.le_refl _))
        (try replace HZ := Bs.below HZ b92 (Nat.le_refl _))
        (try replace HS1 := Bs.below HS1 b92 (Nat.le_refl _))
        (try replace HS2 := Bs.below HS2 b92 (Nat.le_refl _))
        (try replace HS4 := Bs.below HS4 b92 (Nat.le_refl _))
        (try replace HR1 := Bss.below HR1 b92 (Nat.le_refl _))
        (try replace HR2 := Bss.below HR2 b92 (Nat.le_refl _))
        refine ⟨_, rfl, b92, ?_⟩
        simp only [Act.put, List.setIfInBounds_toArray, List.set_cons_zero, List.set_cons_succ]
        refine stp_rows1 94 (.tmp 93) _ rfl rfl rfl rfl rfl HI rfl ?_
        intro w94 v94 HR2 b94
        replace B := B.trans (Below.mono b94 B.size)
        (try replace HA := Bs.below HA b94 (Nat.le_refl _))
        (try replace HBB := Bs.below HBB b94 (Nat.le_refl _))
        (try replace HT := Bs.below HT b94 (Nat.le_refl _))
        (try replace HC := Bs.below HC b94 (Nat.le_refl _))
        (try replace HL := Bs.below HL b94 (Nat.le_refl _))
        (try replace HI := Bs.below HI b94 (Nat.le_refl _))
        (try replace HZ := Bs.below HZ b94 (Nat.le_refl _))
        (try replace HS1 := Bs.below HS1 b94 (Nat.le_refl _))
        (try replace HS2 := Bs.below HS2 b94 (Nat.le_refl _))
        (try replace HS3 := Bs.below HS3 b94 (Nat.le_refl _))
        (try replace HS4 := Bs.below HS4 b94 (Nat.le_refl _))
        (try replace HR1 := Bss.below HR1 b94 (Nat.le_refl _))
        simp only [Act.put, List.setIfInBounds_toArray, List.set_cons_zero, List.set_cons_succ]
        refine stp_fn 95 12 #[Operand.tmp 92, Operand.tmp 94] #[22, 23] _ (mac_any _ _ (k256.sum lg) [ikm] _ HS3 (by rw [sum256_length]; decide) HR2 HFL2.out) rfl rfl rfl rfl Try.func12 (by kernel_rfl) (by kernel_rfl) (by go_simp) ?_
        rintro e w95 ⟨v95, rfl, HS4, b95⟩
        rw [HFL.out, hmac_sum lg ikm (by omega)] at HS4
        replace B := B.trans (Below.mono b95 B.size)
        (try replace HA := Bs.below HA b95 (Nat.le_refl _))
        (try replace HBB := Bs.below HBB b95 (Nat.le_refl _))
        (try replace HT := Bs.below HT b95 (Nat.le_refl _))
        (try replace HC := Bs.below HC b95 (Nat.le_refl _))
        (try replace HL := Bs.below HL b95 (Nat.le_refl _))
        (try replace HI := Bs.below HI b95 (Nat.le_refl _))
        (try replace HZ := Bs.below HZ b95 (Nat.le_refl _))
        (try replace HS1 := Bs.below HS1 b95 (Nat.le_refl _))
        (try replace HS2 := Bs.below HS2 b95 (Nat.le_refl _))
        (try replace HS3 := Bs.below HS3 b95 (Nat.le_refl _))
        (try replace HR1 := Bss.below HR1 b95 (Nat.le_refl _))
        (try replace HR2 := Bss.below HR2 b95 (Nat.le_refl _))
        refine ⟨_, rfl, b95, ?_⟩
        simp only [Act.put, List.setIfInBounds_toArray, List.set_cons_zero, List.set_cons_succ]
        refine lint_conv 96 (Operand.tmp 95) _ _ rfl rfl rfl rfl rfl HS4 ?_
        simp only [Act.put, List.setIfInBounds_toArray, List.set_cons_zero, List.set_cons_succ]
        refine lint_pure 97 (Op.binOp BinOp.eql 9 (Operand.tmp 90) (Operand.tmp 96) 9) 4 _ rfl rfl rfl rfl rfl (fun w0 hb0 => by unfold mkOp; go_simp; all_goals (with_reducible rfl)) ?_
        simp only [Act.put, List.setIfInBounds_toArray, List.set_cons_zero, List.set_cons_succ]
        refine lint_pure 98 (Op.pick (Operand.tmp 85) (Operand.tmp 97) (Operand.const (Value.bool false))) 4 _ rfl rfl rfl rfl rfl (fun w0 hb0 => by unfold mkOp; go_simp; all_goals (with_reducible rfl)) ?_
        simp only [Act.put, List.setIfInBounds_toArray, List.set_cons_zero, List.set_cons_succ]
        refine lint_pure 99 (Op.move (Operand.tmp 98)) 4 _ rfl rfl rfl rfl rfl (fun w0 hb0 => by unfold mkOp; go_simp; all_goals (with_reducible rfl)) ?_
        simp only [Act.put, List.setIfInBounds_toArray, List.set_cons_zero, List.set_cons_succ]
        refine stp_fn 100 7 #[] #[] _ (awake4_any _) rfl rfl rfl rfl Try.func7 (by kernel_rfl) (by kernel_rfl) (by go_simp) ?_
        rintro e w100 ⟨rfl, b100⟩
        replace B := B.trans (Below.mono b100 B.size)
        refine ⟨_, rfl, b100, ?_⟩
        simp only [Act.put, List.setIfInBounds_toArray, List.set_cons_zero, List.set_cons_succ]
        refine lint_pure 101 (Op.pick (Operand.tmp 99) (Operand.tmp 100) (Operand.const (Value.bool false))) 4 _ rfl rfl rfl rfl rfl (fun w0 hb0 => by unfold mkOp; go_simp; all_goals (with_reducible rfl)) ?_
        simp only [Act.put, List.setIfInBounds_toArray, List.set_cons_zero, List.set_cons_succ]
        refine lint_pure 10 (Op.assign (Operand.tmp 101)) 4 _ rfl rfl rfl rfl rfl (fun w0 hb0 => by unfold mkOp; go_simp; all_goals (with_reducible rfl)) ?_
        simp only [Act.put, List.setIfInBounds_toArray, List.set_cons_zero, List.set_cons_succ]
        refine lint_end ?_
        go_wp2
        go_ret
        exact ⟨rfl, B⟩
      · skip
        refine stp_rows1 94 (.tmp 93) _ rfl rfl rfl rfl rfl HI rfl ?_
        intro w94 v94 HR2 b94
        replace B := B.trans (Below.mono b94 B.size)
        (try replace HA := Bs.below HA b94 (Nat.le_refl _))
        (try replace HBB := Bs.below HBB b94 (Nat.le_refl _))
        (try replace HT := Bs.below HT b94 (Nat.le_refl _))
        (try replace HC := Bs.below HC b94 (Nat.le_refl _))
        (try replace HL := Bs.below HL b94 (Nat.le_refl _))
        (try replace HI := Bs.below HI b94 (Nat.le_refl _))
        (try replace HZ := Bs.below HZ b94 (Nat.le_refl _))
        (try replace HS1 := Bs.below HS1 b94 (Nat.le_refl _))
        (try replace HS2 := Bs.below HS2 b94 (Nat.le_refl _))
        (try replace HS3 := Bs.below HS3 b94 (Nat.le_refl _))
        (try replace HS4 := Bs.below HS4 b94 (Nat.le_refl _))
        (try replace HR1 := Bss.below HR1 b94 (Nat.le_refl _))
        simp only [Act.put, List.setIfInBounds_toArray, List.set_cons_zero, List.set_cons_succ]
        refine stp_fn 92 18 #[Operand.tmp 91] #[22] _ (ref256_any _ lg _ HL (by omega)) rfl rfl rfl rfl Try.func18 (by kernel_rfl) (by kernel_rfl) (by go_simp) ?_
        rintro e w92 ⟨v92, rfl, HS3, b92⟩
        replace B := B.trans (Below.mono b92 B.size)
        (try replace HA := Bs.below HA b92 (Nat.le_refl _))
        (try replace HBB := Bs.below HBB b92 (Nat.le_refl _))
        (try replace HT := Bs.below HT b92 (Nat.le_refl _))
        (try replace HC := Bs.below HC b92 (Nat.le_refl _))
        (try replace HL := Bs.below HL b92 (Nat.le_refl _))
        (try replace HI := Bs.below HI b92 (Nat.le_refl _))
        (try replace HZ := Bs.below HZ b92 (Nat.le_refl _))
        (try replace HS1 := Bs.below HS1 b92 (Nat.le_refl _))
        (try replace HS2 := Bs.below HS2 b92 (Nat.le_refl _))
        (try replace HS4 := Bs.below HS4 b92 (Nat.le_refl _))
        (try replace HR1 := Bss.below HR1 b92 (Nat.le_refl _))
        (try replace HR2 := Bss.below HR2 b92 (Nat.le_refl _))
        refine ⟨_, rfl, b92, ?_⟩
        simp only [Act.put, List.setIfInBounds_toArray, List.set_cons_zero, List.set_cons_succ]
        refine stp_fn 95 12 #[Operand.tmp 92, Operand.tmp 94] #[22, 23] _ (mac_any _ _ (k256.sum lg) [ikm] _ HS3 (by rw [sum256_length]; decide) HR2 HFL2.out) rfl rfl rfl rfl Try.func12 (by kernel_rfl) (by kernel_rfl) (by go_simp) ?_
        rintro e w95 ⟨v95, rfl, HS4, b95⟩
        rw [HFL.out, hmac_sum lg ikm (by omega)] at HS4
        replace B := B.trans (Below.mono b95 B.size)
        (try replace HA := Bs.below HA b95 (Nat.le_refl _))
        (try replace HBB := Bs.below HBB b95 (Nat.le_refl _))
        (try replace HT := Bs.below HT b95 (Nat.le_refl _))
        (try replace HC := Bs.below HC b95 (Nat.le_refl _))
        (try replace HL := Bs.below HL b95 (Nat.le_refl _))
        (try replace HI := Bs.below HI b95 (Nat.le_refl _))
        (try replace HZ := Bs.below HZ b95 (Nat.le_refl _))
        (try replace HS1 := Bs.below HS1 b95 (Nat.le_refl _))
        (try replace HS2 := Bs.below HS2 b95 (Nat.le_refl _))
        (try replace HS3 := Bs.below HS3 b95 (Nat.le_refl _))
        (try replace HR1 := Bss.below HR1 b95 (Nat.le_refl _))
        (try replace HR2 := Bss.below HR2 b95 (Nat.le_refl _))
        refine ⟨_, rfl, b95, ?_⟩
        simp only [Act.put, List.setIfInBounds_toArray, List.set_cons_zero, List.set_cons_succ]
        refine lint_conv 96 (Operand.tmp 95) _ _ rfl rfl rfl rfl rfl HS4 ?_
        simp only [Act.put, List.setIfInBounds_toArray, List.set_cons_zero, List.set_cons_succ]
        refine lint_pure 97 (Op.binOp BinOp.eql 9 (Operand.tmp 90) (Operand.tmp 96) 9) 4 _ rfl rfl rfl rfl rfl (fun w0 hb0 => by unfold mkOp; go_simp; all_goals (with_reducible rfl)) ?_
        simp only [Act.put, List.setIfInBounds_toArray, List.set_cons_zero, List.set_cons_succ]
        refine lint_pure 98 (Op.pick (Operand.tmp 85) (Operand.tmp 97) (Operand.const (Value.bool false))) 4 _ rfl rfl rfl rfl rfl (fun w0 hb0 => by unfold mkOp; go_simp; all_goals (with_reducible rfl)) ?_
        simp only [Act.put, List.setIfInBounds_toArray, List.set_cons_zero, List.set_cons_succ]
        refine lint_pure 99 (Op.move (Operand.tmp 98)) 4 _ rfl rfl rfl rfl rfl (fun w0 hb0 => by unfold mkOp; go_simp; all_goals (with_reducible rfl)) ?_
        simp only [Act.put, List.setIfInBounds_toArray, List.set_cons_zero, List.set_cons_succ]
        refine stp_fn 100 7 #[] #[] _ (awake4_any _) rfl rfl rfl rfl Try.func7 (by kernel_rfl) (by kernel_rfl) (by go_simp) ?_
        rintro e w100 ⟨rfl, b100⟩
        replace B := B.trans (Below.mono b100 B.size)
        refine ⟨_, rfl, b100, ?_⟩
        simp only [Act.put, List.setIfInBounds_toArray, List.set_cons_zero, List.set_cons_succ]
        refine lint_pure 101 (Op.pick (Operand.tmp 99) (Operand.tmp 100) (Operand.const (Value.bool false))) 4 _ rfl rfl rfl rfl rfl (fun w0 hb0 => by unfold mkOp; go_simp; all_goals (with_reducible rfl)) ?_
        simp only [Act.put, List.setIfInBounds_toArray, List.set_cons_zero, List.set_cons_succ]
        refine lint_pure 10 (Op.assign (Operand.tmp 101)) 4 _ rfl rfl rfl rfl rfl (fun w0 hb0 => by unfold mkOp; go_simp; all_goals (with_reducible rfl)) ?_
        simp only [Act.put, List.setIfInBounds_toArray, List.set_cons_zero, List.set_cons_succ]
        refine lint_end ?_
        go_wp2
        go_ret
        exact ⟨rfl, B⟩
    · skip
      refine stp_rows1 94 (.tmp 93) _ rfl rfl rfl rfl rfl HI rfl ?_
      intro w94 v94 HR2 b94
      replace B := B.trans (Below.mono b94 B.size)
      (try replace HA := Bs.below HA b94 (Nat.le_refl _))
      (try replace HBB := Bs.below HBB b94 (Nat.le_refl _))
      (try replace HT := Bs.below HT b94 (Nat.le_refl _))
      (try replace HC := Bs.below HC b94 (Nat.le_refl _))
      (try replace HL := Bs.below HL b94 (Nat.le_refl _))
      (try replace HI := Bs.below HI b94 (Nat.le_refl _))
      (try replace HZ := Bs.below HZ b94 (Nat.le_refl _))
      (try replace HS1 := Bs.below HS1 b94 (Nat.le_refl _))
      (try replace HS2 := Bs.below HS2 b94 (Nat.le_refl _))
      (try replace HS3 := Bs.below HS3 b94 (Nat.le_refl _))
      (try replace HS4 := Bs.below HS4 b94 (Nat.le_refl _))
      (try replace HR1 := Bss.below HR1 b94 (Nat.le_refl _))
      simp only [Act.put, List.setIfInBounds_toArray, List.set_cons_zero, List.set_cons_succ]
      refine stp_fn 89 12 #[Operand.tmp 86, Operand.tmp 88] #[22, 23] _ (mac_any _ _ lg [ikm] _ HL (by omega) HR1 HFL2.out) rfl rfl rfl rfl Try.func12 (by kernel_rfl) (by kernel_rfl) (by go_simp) ?_
      rintro e w89 ⟨v89, rfl, HS2, b89⟩
      rw [HFL.out] at HS2
      replace B := B.trans (Below.mono b89 B.size)
      (try replace HA := Bs.below HA b89 (Nat.le_refl _))
      (try replace HBB := Bs.below HBB b89 (Nat.le_refl _))
      (try replace HT := Bs.below HT b89 (Nat.le_refl _))
      (try replace HC := Bs.below HC b89 (Nat.le_refl _))
      (try replace HL := Bs.below HL b89 (Nat.le_refl _))
      (try replace HI := Bs.below HI b89 (Nat.le_refl _))
      (try replace HZ := Bs.below HZ b89 (Nat.le_refl _))
      (try replace HS1 := Bs.below HS1 b89 (Nat.le_refl _))
      (try replace HS3 := Bs.below HS3 b89 (Nat.le_refl _))
      (try replace HS4 := Bs.below HS4 b89 (Nat.le_refl _))
      (try replace HR1 := Bss.below HR1 b89 (Nat.le_refl _))
      (try replace HR2 := Bss.below HR2 b89 (Nat.le_refl _))
      refine ⟨_, rfl, b89, ?_⟩
      simp only [Act.put, List.setIfInBounds_toArray, List.set_cons_zero, List.set_cons_succ]
      refine lint_conv 90 (Operand.tmp 89) _ _ rfl rfl rfl rfl rfl HS2 ?_
      simp only [Act.put, List.setIfInBounds_toArray, List.set_cons_zero, List.set_cons_succ]
      refine stp_fn 92 18 #[Operand.tmp 91] #[22] _ (ref256_any _ lg _ HL (by omega)) rfl rfl rfl rfl Try.func18 (by kernel_rfl) (by kernel_rfl) (by go_simp) ?_
      rintro e w92 ⟨v92, rfl, HS3, b92⟩
      replace B := B.trans (Below.mono b92 B.size)
      (try replace HA := Bs.below HA b92 (Nat.le_refl _))
      (try replace HBB := Bs.below HBB b92 (Nat.le_refl _))
      (try replace HT := Bs.below HT b92 (Nat.le_refl _))
      (try replace HC := Bs.below HC b92 (Nat.le_refl _))
      (try replace HL := Bs.below HL b92 (Nat.le_refl _))
      (try replace HI := Bs.below HI b92 (Nat.le_refl _))
      (try replace HZ := Bs.below HZ b92 (Nat.le_refl _))
      (try replace HS1 := Bs.below HS1 b92 (Nat.le_refl _))
      (try replace HS2 := Bs.below HS2 b92 (Nat.le_refl _))
      (try replace HS4 := Bs.below HS4 b92 (Nat.le_refl _))
      (try replace HR1 := Bss.below HR1 b92 (Nat.le_refl _))
      (try replace HR2 := Bss.below HR2 b92 (Nat.le_refl _))
      refine ⟨_, rfl, b92, ?_⟩
      simp only [Act.put, List.setIfInBounds_toArray, List.set_cons_zero, List.set_cons_succ]
      refine stp_fn 95 12 #[Operand.tmp 92, Operand.tmp 94] #[22, 23] _ (mac_any _ _ (k256.sum lg) [ikm] _ HS3 (by rw [sum256_length]; decide) HR2 HFL2.out) rfl rfl rfl rfl Try.func12 (by kernel_rfl) (by kernel_rfl) (by go_simp) ?_
      rintro e w95 ⟨v95, rfl, HS4, b95⟩
      rw [HFL.out, hmac_sum lg ikm (by omega)] at HS4
      replace B := B.trans (Below.mono b95 B.size)
      (try replace HA := Bs.below HA b95 (Nat.le_refl _))
      (try replace HBB := Bs.below HBB b95 (Nat.le_refl _))
      (try replace HT := Bs.below HT b95 (Nat.le_refl _))
      (try replace HC := Bs.below HC b95 (Nat.le_refl _))
      (try replace HL := Bs.below HL b95 (Nat.le_refl _))
      (try replace HI := Bs.below HI b95 (Nat.le_refl _))
      (try replace HZ := Bs.below HZ b95 (Nat.le_refl _))
      (try replace HS1 := Bs.below HS1 b95 (Nat.le_refl _))
      (try replace HS2 := Bs.below HS2 b95 (Nat.le_refl _))
      (try replace HS3 := Bs.below HS3 b95 (Nat.le_refl _))
      (try replace HR1 := Bss.below HR1 b95 (Nat.le_refl _))
      (try replace HR2 := Bss.below HR2 b95 (Nat.le_refl _))
      refine ⟨_, rfl, b95, ?_⟩
      simp only [Act.put, List.setIfInBounds_toArray, List.set_cons_zero, List.set_cons_succ]
      refine lint_conv 96 (Operand.tmp 95) _ _ rfl rfl rfl rfl rfl HS4 ?_
      simp only [Act.put, List.setIfInBounds_toArray, List.set_cons_zero, List.set_cons_succ]
      refine lint_pure 97 (Op.binOp BinOp.eql 9 (Operand.tmp 90) (Operand.tmp 96) 9) 4 _ rfl rfl rfl rfl rfl (fun w0 hb0 => by unfold mkOp; go_simp; all_goals (with_reducible rfl)) ?_
      simp only [Act.put, List.setIfInBounds_toArray, List.set_cons_zero, List.set_cons_succ]
      refine lint_pure 98 (Op.pick (Operand.tmp 85) (Operand.tmp 97) (Operand.const (Value.bool false))) 4 _ rfl rfl rfl rfl rfl (fun w0 hb0 => by unfold mkOp; go_simp; all_goals (with_reducible rfl)) ?_
      simp only [Act.put, List.setIfInBounds_toArray, List.set_cons_zero, List.set_cons_succ]
      refine lint_pure 99 (Op.move (Operand.tmp 98)) 4 _ rfl rfl rfl rfl rfl (fun w0 hb0 => by unfold mkOp; go_simp; all_goals (with_reducible rfl)) ?_
      simp only [Act.put, List.setIfInBounds_toArray, List.set_cons_zero, List.set_cons_succ]
      refine stp_fn 100 7 #[] #[] _ (awake4_any _) rfl rfl rfl rfl Try.func7 (by kernel_rfl) (by kernel_rfl) (by go_simp) ?_
      rintro e w100 ⟨rfl, b100⟩
      replace B := B.trans (Below.mono b100 B.size)
      refine ⟨_, rfl, b100, ?_⟩
      simp only [Act.put, List.setIfInBounds_toArray, List.set_cons_zero, List.set_cons_succ]
      refine lint_pure 101 (Op.pick (Operand.tmp 99) (Operand.tmp 100) (Operand.const (Value.bool false))) 4 _ rfl rfl rfl rfl rfl (fun w0 hb0 => by unfold mkOp; go_simp; all_goals (with_reducible rfl)) ?_
      simp only [Act.put, List.setIfInBounds_toArray, List.set_cons_zero, List.set_cons_succ]
      refine lint_pure 10 (Op.assign (Operand.tmp 101)) 4 _ rfl rfl rfl rfl rfl (fun w0 hb0 => by unfold mkOp; go_simp; all_goals (with_reducible rfl)) ?_
      simp only [Act.put, List.setIfInBounds_toArray, List.set_cons_zero, List.set_cons_succ]
      refine lint_end ?_
      go_wp2
      go_ret
      exact ⟨rfl, B⟩
  · skip
    refine stp_rows1 94 (.tmp 93) _ rfl rfl rfl rfl rfl HI rfl ?_
    intro w94 v94 HR2 b94
    replace B := B.trans (Below.mono b94 B.size)
    (try replace HA := Bs.below HA b94 (Nat.le_refl _))
    (try replace HBB := Bs.below HBB b94 (Nat.le_refl _))
    (try replace HT := Bs.below HT b94 (Nat.le_refl _))
    (try replace HC := Bs.below HC b94 (Nat.le_refl _))
    (try replace HL := Bs.below HL b94 (Nat.le_refl _))
    (try replace HI := Bs.below HI b94 (Nat.le_refl _))
    (try replace HZ := Bs.below HZ b94 (Nat.le_refl _))
    (try replace HS1 := Bs.below HS1 b94 (Nat.le_refl _))
    (try replace HS2 := Bs.below HS2 b94 (Nat.le_refl _))
    (try replace HS3 := Bs.below HS3 b94 (Nat.le_refl _))
    (try replace HS4 := Bs.below HS4 b94 (Nat.le_refl _))
    (try replace HR1 := Bss.below HR1 b94 (Nat.le_refl _))
    simp only [Act.put, List.setIfInBounds_toArray, List.set_cons_zero, List.set_cons_succ]
    refine stp_rows1 88 (.tmp 87) _ rfl rfl rfl rfl rfl HI rfl ?_
    intro w88 v88 HR1 b88
    replace B := B.trans (Below.mono b88 B.size)
    (try replace HA := Bs.below HA b88 (Nat.le_refl _))
    (try replace HBB := Bs.below HBB b88 (Nat.le_refl _))
    (try replace HT := Bs.below HT b88 (Nat.le_refl _))
    (try replace HC := Bs.below HC b88 (Nat.le_refl _))
    (try replace HL := Bs.below HL b88 (Nat.le_refl _))
    (try replace HI := Bs.below HI b88 (Nat.le_refl _))
    (try replace HZ := Bs.below HZ b88 (Nat.le_refl _))
    (try replace HS1 := Bs.below HS1 b88 (Nat.le_refl _))
    (try replace HS2 := Bs.below HS2 b88 (Nat.le_refl _))
    (try replace HS3 := Bs.below HS3 b88 (Nat.le_refl _))
    (try replace HS4 := Bs.below HS4 b88 (Nat.le_refl _))
    (try replace HR2 := Bss.below HR2 b88 (Nat.le_refl _))
    simp only [Act.put, List.setIfInBounds_toArray, List.set_cons_zero, List.set_cons_succ]
    refine stp_fn 89 12 #[Operand.tmp 86, Operand.tmp 88] #[22, 23] _ (mac_any _ _ lg [ikm] _ HL (by omega) HR1 HFL2.out) rfl rfl rfl rfl Try.func12 (by kernel_rfl) (by kernel_rfl) (by go_simp) ?_
    rintro e w89 ⟨v89, rfl, HS2, b89⟩
    rw [HFL.out] at HS2
    replace B := B.trans (Below.mono b89 B.size)
    (try replace HA := Bs.below HA b89 (Nat.le_refl _))
    (try replace HBB := Bs.below HBB b89 (Nat.le_refl _))
    (try replace HT := Bs.below HT b89 (Nat.le_refl _))
    (try replace HC := Bs.below HC b89 (Nat.le_refl _))
    (try replace HL := Bs.below HL b89 (Nat.le_refl _))
    (try replace HI := Bs.below HI b89 (Nat.le_refl _))
    (try replace HZ := Bs.below HZ b89 (Nat.le_refl _))
    (try replace HS1 := Bs.below HS1 b89 (Nat.le_refl _))
    (try replace HS3 := Bs.below HS3 b89 (Nat.le_refl _))
    (try replace HS4 := Bs.below HS4 b89 (Nat.le_refl _))
    (try replace HR1 := Bss.below HR1 b89 (Nat.le_refl _))
    (try replace HR2 := Bss.below HR2 b89 (Nat.le_refl _))
    refine ⟨_, rfl, b89, ?_⟩
    simp only [Act.put, List.setIfInBounds_toArray, List.set_cons_zero, List.set_cons_succ]
    refine lint_conv 90 (Operand.tmp 89) _ _ rfl rfl rfl rfl rfl HS2 ?_
    simp only [Act.put, List.setIfInBounds_toArray, List.set_cons_zero, List.set_cons_succ]
    refine stp_fn 92 18 #[Operand.tmp 91] #[22] _ (ref256_any _ lg _ HL (by omega)) rfl rfl rfl rfl Try.func18 (by kernel_rfl) (by kernel_rfl) (by go_simp) ?_
    rintro e w92 ⟨v92, rfl, HS3, b92⟩
    replace B := B.trans (Below.mono b92 B.size)
    (try replace HA := Bs.below HA b92 (Nat.le_refl _))
    (try replace HBB := Bs.below HBB b92 (Nat.le_refl _))
    (try replace HT := Bs.below HT b92 (Nat.le_refl _))
    (try replace HC := Bs.below HC b92 (Nat.le_refl _))
    (try replace HL := Bs.below HL b92 (Nat.le_refl _))
    (try replace HI := Bs.below HI b92 (Nat.le_refl _))
    (try replace HZ := Bs.below HZ b92 (Nat.le_refl _))
    (try replace HS1 := Bs.below HS1 b92 (Nat.le_refl _))
    (try replace HS2 := Bs.below HS2 b92 (Nat.le_refl _))
    (try replace HS4 := Bs.below HS4 b92 (Nat.le_refl _))
    (try replace HR1 := Bss.below HR1 b92 (Nat.le_refl _))
    (try replace HR2 := Bss.below HR2 b92 (Nat.le_refl _))
    refine ⟨_, rfl, b92, ?_⟩
    simp only [Act.put, List.setIfInBounds_toArray, List.set_cons_zero, List.set_cons_succ]
    refine stp_fn 95 12 #[Operand.tmp 92, Operand.tmp 94] #[22, 23] _ (mac_any _ _ (k256.sum lg) [ikm] _ HS3 (by rw [sum256_length]; decide) HR2 HFL2.out) rfl rfl rfl rfl Try.func12 (by kernel_rfl) (by kernel_rfl) (by go_simp) ?_
    rintro e w95 ⟨v95, rfl, HS4, b95⟩
    rw [HFL.out, hmac_sum lg ikm (by omega)] at HS4
    replace B := B.trans (Below.mono b95 B.size)
    (try replace HA := Bs.below HA b95 (Nat.le_refl _))
    (try replace HBB := Bs.below HBB b95 (Nat.le_refl _))
    (try replace HT := Bs.below HT b95 (Nat.le_refl _))
    (try replace HC := Bs.below HC b95 (Nat.le_refl _))
    (try replace HL := Bs.below HL b95 (Nat.le_refl _))
    (try replace HI := Bs.below HI b95 (Nat.le_refl _))
    (try replace HZ := Bs.below HZ b95 (Nat.le_refl _))
    (try replace HS1 := Bs.below HS1 b95 (Nat.le_refl _))
    (try replace HS2 := Bs.below HS2 b95 (Nat.le_refl _))
    (try replace HS3 := Bs.below HS3 b95 (Nat.le_refl _))
    (try replace HR1 := Bss.below HR1 b95 (Nat.le_refl _))
    (try replace HR2 := Bss.below HR2 b95 (Nat.le_refl _))
    refine ⟨_, rfl, b95, ?_⟩
    simp only [Act.put, List.setIfInBounds_toArray, List.set_cons_zero, List.set_cons_succ]
    refine lint_conv 96 (Operand.tmp 95) _ _ rfl rfl rfl rfl rfl HS4 ?_
    simp only [Act.put, List.setIfInBounds_toArray, List.set_cons_zero, List.set_cons_succ]
    refine lint_pure 97 (Op.binOp BinOp.eql 9 (Operand.tmp 90) (Operand.tmp 96) 9) 4 _ rfl rfl rfl rfl rfl (fun w0 hb0 => by unfold mkOp; go_simp; all_goals (with_reducible rfl)) ?_
    simp only [Act.put, List.setIfInBounds_toArray, List.set_cons_zero, List.set_cons_succ]
    refine lint_pure 98 (Op.pick (Operand.tmp 85) (Operand.tmp 97) (Operand.const (Value.bool false))) 4 _ rfl rfl rfl rfl rfl (fun w0 hb0 => by unfold mkOp; go_simp; all_goals (with_reducible rfl)) ?_
    simp only [Act.put, List.setIfInBounds_toArray, List.set_cons_zero, List.set_cons_succ]
    refine lint_pure 99 (Op.move (Operand.tmp 98)) 4 _ rfl rfl rfl rfl rfl (fun w0 hb0 => by unfold mkOp; go_simp; all_goals (with_reducible rfl)) ?_
    simp only [Act.put, List.setIfInBounds_toArray, List.set_cons_zero, List.set_cons_succ]
    refine stp_fn 100 7 #[] #[] _ (awake4_any _) rfl rfl rfl rfl Try.func7 (by kernel_rfl) (by kernel_rfl) (by go_simp) ?_
    rintro e w100 ⟨rfl, b100⟩
    replace B := B.trans (Below.mono b100 B.size)
    refine ⟨_, rfl, b100, ?_⟩
    simp only [Act.put, List.setIfInBounds_toArray, List.set_cons_zero, List.set_cons_succ]
    refine lint_pure 101 (Op.pick (Operand.tmp 99) (Operand.tmp 100) (Operand.const (Value.bool false))) 4 _ rfl rfl rfl rfl rfl (fun w0 hb0 => by unfold mkOp; go_simp; all_goals (with_reducible rfl)) ?_
    simp only [Act.put, List.setIfInBounds_toArray, List.set_cons_zero, List.set_cons_succ]
    refine lint_pure 10 (Op.assign (Operand.tmp 101)) 4 _ rfl rfl rfl rfl rfl (fun w0 hb0 => by unfold mkOp; go_simp; all_goals (with_reducible rfl)) ?_
    simp only [Act.put, List.setIfInBounds_toArray, List.set_cons_zero, List.set_cons_succ]
    refine lint_end ?_
    go_wp2
    go_ret
    exact ⟨rfl, B⟩
end Go.Proofs.Ytladojcbbhphfaa
