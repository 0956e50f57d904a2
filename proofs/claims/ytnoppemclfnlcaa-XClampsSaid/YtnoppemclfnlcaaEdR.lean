/- A scalar's number as clamping makes it; the document's Clamp. -/
import Derived.Test.YtnoppemclfnlcaaEdD
import Derived.Test.YtnoppemclfnlcaaEwN
set_option linter.unusedSimpArgs false
set_option linter.unusedVariables false
namespace Go.Proofs.Ytnoppemclfnlcaa
open Go.RowKit Go.Deep

/-- The number of a clamped scalar. -/
def clampN (l : List UInt8) : Nat := numL l 32 % 2 ^ 254 / 8 * 8 + 2 ^ 254
theorem clampN_clamped (l : List UInt8) : Clamped (clampN l) := by
  unfold clampN
  have h : numL l 32 % 2 ^ 254 < 2 ^ 254 := Nat.mod_lt _ (Nat.pow_pos (by decide))
  generalize numL l 32 % 2 ^ 254 = r at h
  have h8 : (2 : Nat) ^ 254 = 8 * 2 ^ 251 := by decide +kernel
  have h2 : (2 : Nat) ^ 255 = 16 * 2 ^ 251 := by decide +kernel
  generalize (2 : Nat) ^ 251 = t at *
  refine ⟨Nat.le_add_left _ _, by omega, ⟨r / 8 + t, ?_⟩⟩
  omega
def byteN (K i : Nat) : Nat := K / 256 ^ i % 256
theorem byteN_lt (K i : Nat) : byteN K i < 256 := Nat.mod_lt _ (by decide)
theorem byteN_numL (l : List UInt8) (i : Nat) (h : i < 32) : byteN (numL l 32) i = (l.getD i 0).toNat := numL_dig l 32 i h
theorem clamp_low (l : List UInt8) : byteN (clampN l) 0 = (l.getD 0 0).toNat / 8 * 8 := by
  rw [← byteN_numL l 0 (by decide)]
  unfold byteN clampN
  rw [Nat.pow_zero, Nat.div_one, Nat.div_one]
  have h8 : (2 : Nat) ^ 254 = 256 * 2 ^ 246 := by decide +kernel
  rw [h8]
  have h := Nat.mod_mul_right_mod (numL l 32) 256 (2 ^ 246)
  generalize (2 : Nat) ^ 246 = t at *
  generalize numL l 32 = N at *
  generalize N % (256 * t) = r at *
  omega
theorem clamp_mid (l : List UInt8) (i : Nat) (h0 : 0 < i) (h31 : i < 31) : byteN (clampN l) i = (l.getD i 0).toNat := by
  rw [← byteN_numL l i (by omega)]
  unfold byteN clampN
  obtain ⟨j, rfl⟩ : ∃ j, i = j + 1 := ⟨i - 1, by omega⟩
  have e : (2 : Nat) ^ 254 = 256 ^ (j + 1) * (256 * (256 ^ (29 - j) * 64)) := by
    have h1 : (256 : Nat) ^ (j + 1) * 256 * 256 ^ (29 - j) = 256 ^ 31 := by
      rw [← Nat.pow_succ, ← Nat.pow_add]
      congr 1
      omega
    have h3 : (2 : Nat) ^ 254 = 256 ^ 31 * 64 := by decide +kernel
    rw [h3, ← h1]
    simp only [Nat.mul_assoc]
  rw [e]
  generalize 256 ^ (29 - j) * 64 = t
  rw [Nat.add_mul_div_left _ _ (pow256_pos (j + 1)), Nat.add_mul_mod_self_left]
  have h2 : numL l 32 % (256 ^ (j + 1) * (256 * t)) / 8 * 8 / 256 ^ (j + 1) = numL l 32 % (256 ^ (j + 1) * (256 * t)) / 256 ^ (j + 1) := by
    generalize numL l 32 % (256 ^ (j + 1) * (256 * t)) = r
    have hp : (256 : Nat) ^ (j + 1) = 8 * (32 * 256 ^ j) := by rw [Nat.pow_succ]; omega
    rw [hp]
    generalize 32 * 256 ^ j = z
    rw [← Nat.div_div_eq_div_mul, ← Nat.div_div_eq_div_mul, Nat.mul_div_cancel _ (by decide)]
  rw [h2, Nat.mod_mul_right_div_self, Nat.mod_mul_right_mod]
theorem clamp_high (l : List UInt8) : byteN (clampN l) 31 = (l.getD 31 0).toNat % 64 + 64 := by
  rw [← byteN_numL l 31 (by decide)]
  unfold byteN clampN
  have e : (2 : Nat) ^ 254 = 256 ^ 31 * 64 := by decide +kernel
  have hp : (256 : Nat) ^ 31 = 8 * (32 * 256 ^ 30) := by decide +kernel
  have h2 : numL l 32 % (256 ^ 31 * 64) / 8 * 8 / 256 ^ 31 = numL l 32 % (256 ^ 31 * 64) / 256 ^ 31 := by
    generalize numL l 32 % (256 ^ 31 * 64) = r
    rw [hp]
    generalize 32 * 256 ^ 30 = z
    rw [← Nat.div_div_eq_div_mul, ← Nat.div_div_eq_div_mul, Nat.mul_div_cancel _ (by decide)]
  rw [e, Nat.add_mul_div_left _ _ (pow256_pos 31), h2, Nat.mod_mul_right_div_self]
  generalize numL l 32 / 256 ^ 31 = q
  omega
theorem and248N (x : Nat) (h : x < 256) : bits .and .u8 (x : Int) 248 = ((x / 8 * 8 : Nat) : Int) := by
  have g : ∀ q : Fin 256, bits .and .u8 ((q.val : Nat) : Int) 248 = ((q.val / 8 * 8 : Nat) : Int) := by decide +kernel
  exact g ⟨x, h⟩
theorem and127N (x : Nat) (h : x < 256) : bits .and .u8 (x : Int) 127 = ((x % 128 : Nat) : Int) := by
  have g : ∀ q : Fin 256, bits .and .u8 ((q.val : Nat) : Int) 127 = ((q.val % 128 : Nat) : Int) := by decide +kernel
  exact g ⟨x, h⟩
theorem or64N (x : Nat) (h : x < 256) : bits .or .u8 ((x % 128 : Nat) : Int) 64 = ((x % 64 + 64 : Nat) : Int) := by
  have g : ∀ q : Fin 256, bits .or .u8 ((q.val % 128 : Nat) : Int) 64 = ((q.val % 64 + 64 : Nat) : Int) := by decide +kernel
  exact g ⟨x, h⟩
theorem bit_at (K t : Nat) : byteN K (t / 8) / 2 ^ (t % 8) % 2 = K / 2 ^ t % 2 := by
  unfold byteN
  have e : K / 2 ^ t = K / 256 ^ (t / 8) / 2 ^ (t % 8) := by
    rw [Nat.div_div_eq_div_mul, show (256 : Nat) = 2 ^ 8 from rfl, ← Nat.pow_mul, ← Nat.pow_add]
    congr 2
    omega
  rw [e]
  generalize K / 256 ^ (t / 8) = A
  have hr : t % 8 < 8 := Nat.mod_lt _ (by decide)
  generalize t % 8 = r at hr
  rcases (show r = 0 ∨ r = 1 ∨ r = 2 ∨ r = 3 ∨ r = 4 ∨ r = 5 ∨ r = 6 ∨ r = 7 by omega) with rfl | rfl | rfl | rfl | rfl | rfl | rfl | rfl <;> omega
/-- The row of a number's bytes. -/
def kF (K : Nat) : Nat → Value := fun i => .int .u8 ((byteN K i : Nat) : Int)
theorem kF_bs {w : World} {b : Nat} {t : TypeId} {K : Nat} (h : w.rowIs b t 32 (kF K)) : Bs w (.slice (some ⟨b, 0, none⟩) 32 32) (litB K 32) := by
  have g := Bs.of_rowIs h (litB K 32) (by rw [litB_length]; exact Nat.le_refl _) (by unfold maxLen; omega) fun i hi => by
    rw [litB_at]
    unfold kF byteN
    rw [UInt8.toNat_ofNat']
  rwa [litB_length] at g
set_option maxHeartbeats 1000000 in
theorem refClamp_any (v : Value) (l : List UInt8) (w : World) (hv : Bs w v l) :
    Calls Try.prog 11 #[v] w fun e w' => e = .returned (.slice (some ⟨w.heap.size, 0, none⟩) 32 32) ∧ w'.rowIs w.heap.size 5 32 (kF (clampN l)) ∧ Below w.heap.size w w' := by
  have HF := Lib.hid (refFillRow_any v l 32 w hv (by omega) (by omega))
  have e1 := clamp_low l
  have e2 := fun i => clamp_mid l i
  have e3 := clamp_high l
  obtain ⟨K, hK⟩ := nat_var (clampN l)
  rw [← hK] at e1 e2 e3 ⊢
  obtain ⟨x, hx⟩ := nat_var ((l.getD 0 0).toNat)
  obtain ⟨y, hy⟩ := nat_var ((l.getD 31 0).toNat)
  have hx1 : x < 256 := by rw [hx]; exact UInt8.toNat_lt _
  have hy1 : y < 256 := by rw [hy]; exact UInt8.toNat_lt _
  rw [← hx] at e1
  rw [← hy] at e3
  have a1 := and248N x hx1
  have a2 := and127N y hy1
  have a3 := or64N y hy1
  obtain ⟨x2, hx2⟩ := nat_var (x / 8 * 8)
  obtain ⟨y2, hy2⟩ := nat_var (y % 128)
  obtain ⟨y3, hy3⟩ := nat_var (y % 64 + 64)
  rw [← hx2] at a1 e1
  rw [← hy2] at a2 a3
  rw [← hy3] at a3 e3
  have HX := Lib.hid hx
  have HY := Lib.hid hy
  have H1 := Lib.hid e1
  have H2 := Lib.hid e2
  have H3 := Lib.hid e3
  clear hK hx hy hx1 hy1 hx2 hy2 hy3 e1 e2 e3 hv
  go_enter Try.func11, Try.ntmps11
  go_wp2_with (go_at_call 20; refine HF.out.mono ?_; rintro e w1 ⟨rfl, hr1, hb1⟩
               have hc0 := hr1.cell (i := 0) (by omega)
               have hf0 := hr1.frozen 0
               have hr2 := hr1.set 0 (.int .u8 (x2 : Int))
               have hc31 := hr2.cell (i := 31) (by omega)
               have hf31 := hr2.frozen 31
               have hr3 := hr2.set 31 (.int .u8 (y3 : Int))
               have hb3 := (hb1.setCell (p := ⟨w.heap.size, 0, none⟩) (Nat.le_refl _) (.int .u8 (x2 : Int))).setCell (p := ⟨w.heap.size, 31, none⟩) (Nat.le_refl _) (.int .u8 (y3 : Int))
               unfold bytesAt at hc0
               rw [← HX.out] at hc0
               rw [if_neg (by decide)] at hc31
               unfold bytesAt at hc31
               rw [← HY.out] at hc31
               clear hr1 hr2 hb1)
  go_ret
  refine ⟨rfl, hr3.congr fun i hi => ?_, hb3⟩
  unfold kF
  by_cases h31 : i = 31
  · subst h31
    rw [if_pos rfl, H3.out]
  · rw [if_neg h31]
    by_cases h0 : i = 0
    · subst h0
      rw [if_pos rfl, H1.out]
    · rw [if_neg h0, H2.out i (by omega) (by omega)]
      rfl
end Go.Proofs.Ytnoppemclfnlcaa
