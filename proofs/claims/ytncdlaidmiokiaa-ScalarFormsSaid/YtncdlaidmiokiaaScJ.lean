/- A number's bytes made of its digits, and with L added: what the law of forms needs. -/
import Derived.Test.YtncdlaidmiokiaaSwF
namespace Go.Proofs.Ytncdlaidmiokiaa
open Go.RowKit Go.Deep
set_option linter.unusedSimpArgs false
set_option linter.unusedVariables false

theorem refOrderO_any (w : World) : Calls Try.prog 24 #[] w fun e w' => ∃ v, e = .returned v ∧ Owns w' w.heap.size v (litB ordL 32) ∧ Below w.heap.size w w' := by
  have HO := Lib.hid fun w => refOrder_any w
  go_enter Try.func24, Try.ntmps24
  go_wp2_with (first
    | (go_at_call 38; refine (HO.out _).mono ?_; rintro e w1 ⟨rfl, hr, hb⟩
       have hBs := Bs.of_part2 (off := 0) (n := 32) hr (beL ordL) (beL_length ordL) (by omega) (by unfold maxLen; omega) fun i hi => by
         rw [beL_at]
         unfold bF
         rw [Nat.zero_add]
       have HT := Lib.hid (refTurned_any _ (beL ordL) _ hBs (by rw [beL_length]; omega))
       rw [beL_rev] at HT
       clear hr hBs)
    | (go_at_call 29; refine HT.out.mono ?_; rintro e w2 ⟨v2, rfl, hO, hb2⟩))
  go_ret
  exact ⟨_, rfl, hO.lower hb.size, hb.trans (hb2.mono hb.size)⟩
theorem round0_any (w : World) : Calls Try.prog 25 #[.int .i64 0, .int .i64 2] w fun e w' => e = .returned (.int .i64 0) ∧ Below w.heap.size w w' := by
  go_enter Try.func25, Try.ntmps25
  go_wp2
  go_ret
  exact ⟨rfl, Below.refl _ _⟩
theorem bit_split (k : Nat) : (2 : Nat) ^ k = 256 ^ (k / 8) * 2 ^ (k % 8) := by
  rw [show (256 : Nat) = 2 ^ 8 from rfl, ← Nat.pow_mul, ← Nat.pow_add, Nat.div_add_mod]
theorem bit_next (X k : Nat) : X % 2 ^ (k + 1) = X % 2 ^ k + 256 ^ (k / 8) * (2 ^ (k % 8) * (X / 2 ^ k % 2)) := by
  rw [Nat.pow_succ, Nat.mod_mul, ← Nat.mul_assoc, ← bit_split]
theorem pow8_lt (k : Nat) : (2 : Nat) ^ (k % 8) ≤ 128 := by
  have h : k % 8 ≤ 7 := by omega
  exact Nat.le_trans (Nat.pow_le_pow_right (by decide) h) (by decide)
theorem bit_low (X k : Nat) : byteN (X % 2 ^ k) (k / 8) < 2 ^ (k % 8) := by
  have h : X % 2 ^ k < 256 ^ (k / 8) * 2 ^ (k % 8) := by rw [← bit_split]; exact Nat.mod_lt _ (Nat.pow_pos (by decide))
  have h2 : X % 2 ^ k / 256 ^ (k / 8) < 2 ^ (k % 8) := Nat.div_lt_of_lt_mul h
  exact Nat.lt_of_le_of_lt (Nat.mod_le _ _) h2
theorem bit_byte (X k : Nat) : byteN (X % 2 ^ (k + 1)) (k / 8) = byteN (X % 2 ^ k) (k / 8) + 2 ^ (k % 8) * (X / 2 ^ k % 2) := by
  have hp := pow256_pos (k / 8)
  have h : X % 2 ^ k < 256 ^ (k / 8) * 2 ^ (k % 8) := by rw [← bit_split]; exact Nat.mod_lt _ (Nat.pow_pos (by decide))
  have h2 : X % 2 ^ k / 256 ^ (k / 8) < 2 ^ (k % 8) := Nat.div_lt_of_lt_mul h
  have h3 := pow8_lt k
  have h4 : 2 ^ (k % 8) * (X / 2 ^ k % 2) ≤ 2 ^ (k % 8) := by
    have h5 : X / 2 ^ k % 2 ≤ 1 := by omega
    exact Nat.le_trans (Nat.mul_le_mul_left _ h5) (by rw [Nat.mul_one]; exact Nat.le_refl _)
  unfold byteN
  rw [bit_next, Nat.add_mul_div_left _ _ hp]
  generalize 2 ^ (k % 8) * (X / 2 ^ k % 2) = z at *
  generalize X % 2 ^ k / 256 ^ (k / 8) = y at *
  generalize (2 : Nat) ^ (k % 8) = t at *
  omega
theorem bit_else (X k j : Nat) (hj : j ≠ k / 8) : byteN (X % 2 ^ (k + 1)) j = byteN (X % 2 ^ k) j := by
  by_cases h : j < k / 8
  · unfold byteN
    rw [bit_next, show (256 : Nat) ^ (k / 8) = 256 ^ j * (256 * 256 ^ (k / 8 - j - 1)) by
      rw [← Nat.mul_assoc, ← Nat.pow_succ, ← Nat.pow_add]; congr 1; omega, Nat.mul_assoc, Nat.add_mul_div_left _ _ (pow256_pos j), Nat.mul_assoc, Nat.add_mul_mod_self_left]
  · have hz : ∀ m, m ≤ k + 1 → byteN (X % 2 ^ m) j = 0 := fun m hm => by
      unfold byteN
      have h1 : X % 2 ^ m < 2 ^ m := Nat.mod_lt _ (Nat.pow_pos (by decide))
      have h2 : (2 : Nat) ^ m ≤ 256 ^ j := by
        rw [show (256 : Nat) = 2 ^ 8 from rfl, ← Nat.pow_mul]
        exact Nat.pow_le_pow_right (by decide) (by omega)
      rw [Nat.div_eq_of_lt (Nat.lt_of_lt_of_le h1 h2)]
    rw [hz _ (Nat.le_refl _), hz _ (by omega)]
theorem bits_set (X k z : Nat) (hz : z = byteN (X % 2 ^ k) (k / 8) + 2 ^ (k % 8) * (X / 2 ^ k % 2)) : (litB (X % 2 ^ k) 32).set (k / 8) (UInt8.ofNat z) = litB (X % 2 ^ (k + 1)) 32 := by
  have h := litB_set (X % 2 ^ k) (X % 2 ^ (k + 1)) (k / 8) fun j _ hne => (bit_else X k j hne).symm
  rw [← h, hz, ← bit_byte]
  congr 1
  apply UInt8.toNat_inj.1
  simp only [UInt8.toNat_ofNat']
  unfold byteN
  rw [Nat.mod_mod]
theorem or8 (a s b : Nat) (hs : s < 8) (ha : a < 2 ^ s) (hb : b ≤ 1) : bits .or .u8 (a : Int) ((2 ^ s * b : Nat) : Int) = ((a + 2 ^ s * b : Nat) : Int) := by
  have g : ∀ s : Fin 8, ∀ a : Fin 128, a.val < 2 ^ s.val → ∀ b : Fin 2, bits .or .u8 ((a.val : Nat) : Int) ((2 ^ s.val * b.val : Nat) : Int) = ((a.val + 2 ^ s.val * b.val : Nat) : Int) := by decide +kernel
  have h7 : (2 : Nat) ^ s ≤ 2 ^ 7 := Nat.pow_le_pow_right (by decide) (by omega)
  exact g ⟨s, hs⟩ ⟨a, Nat.lt_of_lt_of_le ha h7⟩ ha ⟨b, by omega⟩
theorem add_set (D j z : Nat) (hz : z = byteN D j) (hj : j < 32) : (litB (D % 256 ^ j) 32).set j (UInt8.ofNat z) = litB (D % 256 ^ (j + 1)) 32 := by
  have hn := mod_next D j
  have hlt : D % 256 ^ j < 256 ^ j := Nat.mod_lt _ (pow256_pos j)
  have hb : byteN D j < 256 := byteN_lt D j
  have h := litB_set (D % 256 ^ j) (D % 256 ^ (j + 1)) j fun i _ hne => by
    rw [hn]
    by_cases h : i < j
    · rw [show (256 : Nat) ^ j = 256 ^ i * (256 * 256 ^ (j - i - 1)) by
        rw [← Nat.mul_assoc, ← Nat.pow_succ, ← Nat.pow_add]; congr 1; omega, Nat.mul_assoc, Nat.add_mul_div_left _ _ (pow256_pos i), Nat.mul_assoc, Nat.add_mul_mod_self_left]
    · have h1 : (256 : Nat) ^ (j + 1) ≤ 256 ^ i := Nat.pow_le_pow_right (by decide) (by omega)
      have h2 : D % 256 ^ j + 256 ^ j * byteN D j < 256 ^ (j + 1) := by rw [← hn]; exact Nat.mod_lt _ (pow256_pos _)
      rw [Nat.div_eq_of_lt (Nat.lt_of_lt_of_le h2 h1), Nat.div_eq_of_lt (by omega)]
  rw [← h, hz]
  congr 1
  rw [hn, Nat.add_mul_div_left _ _ (pow256_pos j), Nat.div_eq_of_lt hlt, Nat.zero_add]
theorem forms_wide (X : Nat) (h : X < ordL) : numL (litB X 32) 64 % ordL = X := by
  have e := wide_32 (litB X 32) (litB_length X 32)
  have e1 := numL_litB X 32 32 (Nat.le_refl _)
  rw [Nat.mod_eq_of_lt (Nat.lt_trans h ordL_lt)] at e1
  rw [e, e1, Nat.mod_eq_of_lt h]
theorem two_L_32 : ordL + ordL < 256 ^ 32 := by decide +kernel
theorem forms_wide2 (X : Nat) (h : X < ordL) : numL (litB (X + ordL) 32) 64 % ordL = X := by
  have e := wide_32 (litB (X + ordL) 32) (litB_length _ 32)
  have e1 := numL_litB (X + ordL) 32 32 (Nat.le_refl _)
  rw [Nat.mod_eq_of_lt (Nat.lt_trans (Nat.add_lt_add_right h ordL) two_L_32)] at e1
  rw [e, e1, Nat.add_mod_right, Nat.mod_eq_of_lt h]
theorem forms_strict (X : Nat) (h : X < ordL) : strictSN (litB X 32) = some X := by
  have e1 := numL_litB X 32 32 (Nat.le_refl _)
  rw [Nat.mod_eq_of_lt (Nat.lt_trans h ordL_lt)] at e1
  unfold strictSN
  rw [if_pos ⟨litB_length _ _, by rw [e1]; exact h⟩, e1]
theorem forms_none (X : Nat) (h : X < ordL) : strictSN (litB (X + ordL) 32) = none := by
  have e1 := numL_litB (X + ordL) 32 32 (Nat.le_refl _)
  rw [Nat.mod_eq_of_lt (Nat.lt_trans (Nat.add_lt_add_right h ordL) two_L_32)] at e1
  unfold strictSN
  rw [if_neg]
  rintro ⟨_, h2⟩
  rw [e1] at h2
  exact absurd h2 (Nat.not_lt.2 (Nat.le_add_left _ _))
theorem all_bits (X : Nat) (h : X < ordL) : X % 2 ^ 256 = X := Nat.mod_eq_of_lt (Nat.lt_trans h (by decide +kernel))
theorem all_bytes (X : Nat) (h : X < ordL) : (X + ordL) % 256 ^ 32 = X + ordL := Nat.mod_eq_of_lt (Nat.lt_trans (Nat.add_lt_add_right h ordL) two_L_32)
theorem Owns.belowJ {w w' : World} {base : Nat} {v : Value} {l : List UInt8} (h : Owns w base v l) (hb : Below w.heap.size w w') : Owns w' base v l := by
  obtain ⟨h1, h2⟩ := h
  refine ⟨h1, ?_⟩
  rcases h2 with h2 | ⟨g, cap, cur, rfl, hbg, hg, h3⟩
  · exact .inl h2
  · exact .inr ⟨g, cap, cur, rfl, hbg, (hb.block g (Array.getElem?_eq_some_iff.1 hg).1).trans hg, h3⟩
theorem litB_zero : litB 0 32 = List.replicate 32 0 := by decide +kernel
theorem bit_neg (X : Nat) : ((bitZ X (-1) : Nat) : Int) = 0 := by
  unfold bitZ
  rw [if_neg (by omega)]
  rfl
theorem bit_far (X : Nat) : ((bitZ X 256 : Nat) : Int) = 0 := by
  unfold bitZ
  rw [if_neg (by omega)]
  rfl
theorem bit_in (X k : Nat) (h : k < 256) : bitZ X (k : Int) = X / 2 ^ k % 2 := by
  unfold bitZ
  rw [if_pos ⟨by omega, by omega⟩, Int.toNat_natCast]
/-- Bytes of one's own, made anew. -/
theorem wpList_make32 {ops : Array Oper} {rest : List Oper} {o : Oper} {a : Act} {w : World} {Q : Exit → Act → World → Prop} (hgd : o.guard = none) (ho : o.op = .makeSlice 22 (.const (.int .i64 32)) (.const (.int .i64 32)))
    (h : ∀ b w', w.heap.size ≤ b → Owns w' b (.slice (some ⟨b, 0, none⟩) 32 32) (List.replicate 32 0) → Below w.heap.size w w' → wpList Try.prog ops Q rest (a.put o.dst (.slice (some ⟨b, 0, none⟩) 32 32)) w') : wpList Try.prog ops Q (o :: rest) a w := by
  have hr := exec_make32 a o.type w
  exact wpList_plain hgd fun _ hK => by
    unfold Oper.wp
    rw [exec_mkOp, ho, hr]
    exact hK _ _ (h _ _ (Nat.le_refl _) (made_own w 32 (by unfold maxLen; omega)) ((Below.refl _ _).alloc (Nat.le_refl _) _))
theorem lins_val {P : Program} {ops : Array Oper} {Q : Exit → Act → World → Prop} {i : Nat} {r : List (Nat × Option (List Nat))} {R : Nat → World → Prop} {a : Act} {w : World} {o : Oper} {fn : Func} (d : Option Nat) (x : Operand) (f : Nat) (xs : Array Operand) (ts : Array TypeId) (args : Array Value) {T : Ending → World → Prop} (hc : Calls P f args w T)
    (ho : ops[i]? = some o) (hd : o.dst = d) (hop : o.op = .call { callee := .value x, args := xs, argTypes := ts }) (hx : a.eval x = .func (.func f) #[] #[])
    (hw : Region.wanted o (yielded ops a.tmps) = true) (hf : P.funcs[f]? = some fn) (hn : (fn.name == "runtime.NumGoroutine") = false) (hb : fn.body.isNone = false) (hargs : xs.map a.eval = args)
    (h : ∀ e w', T e w' → ∃ v, e = .returned v ∧ ∃ R' : Nat → World → Prop, (∀ c ∈ writers r, R' c w' ∧ ∀ w'', R' c w'' → R c w'') ∧ LinS P ops Q r R' (a.put d v) w') : LinS P ops Q ((i, none) :: r) R a w := by
  show wpOp P ops Q i _ a w
  refine wpOp_step ho fun K' hK => ?_
  rw [if_pos hw]
  unfold Oper.wp
  have hx : (execOp a.eval o).run P w = .ok (.enter f args) w := by simp [execOp, hop, resolve, hx, Deferred.ofValue, invoke, hargs, run_enter hf hn hb]
  rw [hx]
  refine hc.mono fun e w' hT => ?_
  obtain ⟨v, rfl, R', h1, h2⟩ := h e w' hT
  exact hK _ _ ⟨R', h1, by rw [hd]; exact h2⟩
theorem lins_store_byte {ops : Array Oper} {Q : Exit → Act → World → Prop} {i : Nat} {r : List (Nat × Option (List Nat))} {R : Nat → World → Prop} {a : Act} {w : World} {o : Oper} (x y : Operand) (ho : ops[i]? = some o) (hd : o.dst = none) (hop : o.op = .store 5 x y)
    (hw : Region.wanted o (yielded ops a.tmps) = true) {base g n cap : Nat} (j b : Nat) {l : List UInt8} (hown : Owns w base (.slice (some ⟨g, 0, none⟩) n cap) l) (hn : n = l.length) (hnc : n ≤ cap) (hj : j < l.length)
    (hx : a.eval x = .pointer (some ⟨g, j, none⟩)) (hy : a.eval y = .int .u8 (b : Int)) (hb : b < 256)
    (h : ∀ w', Owns w' base (.slice (some ⟨g, 0, none⟩) n cap) (l.set j (UInt8.ofNat b)) → w.grownBy w' (some g) → ∃ R' : Nat → World → Prop, (∀ c ∈ writers r, R' c w' ∧ ∀ w'', R' c w'' → R c w'') ∧ LinS Try.prog ops Q r R' a w') :
    LinS Try.prog ops Q ((i, none) :: r) R a w := by
  obtain ⟨f, hr⟩ := hown.rowOf
  have e : ((UInt8.ofNat b).toNat : Int) = (b : Int) := by rw [UInt8.toNat_ofNat_of_lt' (show b < 256 from hb)]
  have h1 := Owns.set (j := j) hown hn (UInt8.ofNat b)
  rw [e] at h1
  exact lins_store_cell 5 x y ho hd hop hw hr hx hy (by kernel_rfl) rfl rfl (by omega) (h _ h1 (grownBy_set _ _ _ _))
end Go.Proofs.Ytncdlaidmiokiaa
