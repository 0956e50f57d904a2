/- Keccak in words: what both the program's permutation and sponges and the document's are walked to; no world in it. -/
import Derived.Test.YtmfogngfdgpahaaDoorSha
namespace Go.Proofs.YtmfogngfdgpahaaDoor
open Go.RowKit Go.Deep

/-! ### The permutation -/
def rol (x : BitVec 64) (k : Nat) : BitVec 64 := x <<< k ||| x >>> (64 - k)
theorem rol_zero (x : BitVec 64) : rol x 0 = x := by
  unfold rol
  rw [BitVec.shiftLeft_zero, Nat.sub_zero, BitVec.ushiftRight_eq_zero (Nat.le_refl _), BitVec.or_zero]

def colS (s : Nat → BitVec 64) (x : Nat) : BitVec 64 := s x ^^^ s (x + 5) ^^^ s (x + 10) ^^^ s (x + 15) ^^^ s (x + 20)
def thetaD (s : Nat → BitVec 64) (x : Nat) : BitVec 64 := colS s ((x + 4) % 5) ^^^ rol (colS s ((x + 1) % 5)) 1
def thetaS (s : Nat → BitVec 64) (i : Nat) : BitVec 64 := s i ^^^ thetaD s (i % 5)
def turnsL : List Nat := [0, 1, 62, 28, 27, 36, 44, 6, 55, 20, 3, 10, 43, 25, 39, 41, 45, 15, 21, 8, 18, 2, 61, 56, 14]
def sourcesL : List Nat := [0, 6, 12, 18, 24, 3, 9, 10, 16, 22, 1, 7, 13, 19, 20, 4, 5, 11, 17, 23, 2, 8, 14, 15, 21]
def marksL : List Nat := [1, 32898, 9223372036854808714, 9223372039002292224, 32907, 2147483649, 9223372039002292353, 9223372036854808585, 138, 136, 2147516425, 2147483658, 2147516555, 9223372036854775947, 9223372036854808713, 9223372036854808579, 9223372036854808578, 9223372036854775936, 32778, 9223372039002259466, 9223372039002292353, 9223372036854808704, 2147483649, 9223372039002292232]
def turnsN (i : Nat) : Nat := turnsL.getD i 0
def srcN (i : Nat) : Nat := sourcesL.getD i 0
def markB (i : Nat) : BitVec 64 := BitVec.ofNat 64 (marksL.getD i 0)
def rhoS (s : Nat → BitVec 64) (i : Nat) : BitVec 64 := rol (s i) (turnsN i)
def piS (s : Nat → BitVec 64) (i : Nat) : BitVec 64 := s (srcN i)
def chiS (s : Nat → BitVec 64) (i : Nat) : BitVec 64 := s i ^^^ (~~~s (i / 5 * 5 + (i + 1) % 5) &&& s (i / 5 * 5 + (i + 2) % 5))
def iotaS (r : Nat) (s : Nat → BitVec 64) (i : Nat) : BitVec 64 := if i = 0 then s 0 ^^^ markB r else s i
def roundS (r : Nat) (s : Nat → BitVec 64) : Nat → BitVec 64 := iotaS r (chiS (piS (rhoS (thetaS s))))
def roundsS (s : Nat → BitVec 64) : Nat → Nat → BitVec 64
  | 0 => s
  | r + 1 => roundS r (roundsS s r)
def keccak (s : Nat → BitVec 64) : Nat → BitVec 64 := roundsS s 24

theorem turnsN_lt : ∀ i, i < 25 → turnsN i < 64 := by decide
theorem srcN_lt : ∀ i, i < 25 → srcN i < 25 := by decide
theorem marks_lt : ∀ i, i < 24 → marksL.getD i 0 < 18446744073709551616 := by decide

/-! ### The document's own way: places and turns by a walk, marks by a register. -/
def walkXY : Nat → Nat × Nat
  | 0 => (1, 0)
  | t + 1 => ((walkXY t).2, (2 * (walkXY t).1 + 3 * (walkXY t).2) % 5)
def walkB (a : Nat → BitVec 64) : Nat → Nat → BitVec 64
  | 0 => fun i => if i = 0 then a 0 else 0
  | t + 1 => fun i => if i = (walkXY t).2 + 5 * ((2 * (walkXY t).1 + 3 * (walkXY t).2) % 5) then rol (a ((walkXY t).1 + 5 * (walkXY t).2)) ((t + 1) * (t + 2) / 2 % 64) else walkB a t i
theorem walkXY_lt : ∀ t, t < 25 → (walkXY t).1 < 5 ∧ (walkXY t).2 < 5 := by decide
theorem walkB_all (a : Nat → BitVec 64) : ∀ i, i < 25 → walkB a 24 i = piS (rhoS a) i := by
  intro i hi
  have h0 : walkB a 24 0 = a 0 := rfl
  have h0' : piS (rhoS a) 0 = rol (a 0) 0 := rfl
  match i, hi with
  | 0, _ => rw [h0, h0', rol_zero]
  | 1, _ => rfl
  | 2, _ => rfl
  | 3, _ => rfl
  | 4, _ => rfl
  | 5, _ => rfl
  | 6, _ => rfl
  | 7, _ => rfl
  | 8, _ => rfl
  | 9, _ => rfl
  | 10, _ => rfl
  | 11, _ => rfl
  | 12, _ => rfl
  | 13, _ => rfl
  | 14, _ => rfl
  | 15, _ => rfl
  | 16, _ => rfl
  | 17, _ => rfl
  | 18, _ => rfl
  | 19, _ => rfl
  | 20, _ => rfl
  | 21, _ => rfl
  | 22, _ => rfl
  | 23, _ => rfl
  | 24, _ => rfl
  | i + 25, h => omega

/-- The register: a bit falls out above, and is laid over below. -/
def regStep (l : Nat) : Nat := if l / 128 = 1 then (l * 2 % 256) ^^^ 113 else l * 2 % 256
def regAt : Nat → Nat
  | 0 => 1
  | k + 1 => regStep (regAt k)
def markTo (k : Nat) : Nat → BitVec 64
  | 0 => 0
  | j + 1 => if regAt (k + j) % 2 = 1 then markTo k j ^^^ (1 <<< (2 ^ j - 1)) else markTo k j
theorem markTo_all : ∀ r, r < 24 → markTo (7 * r) 7 = markB r := by decide +kernel
theorem regAt_lt : ∀ k, k < 169 → regAt k < 256 := by decide +kernel

/-! ### Sponges -/
def zeroS : Nat → BitVec 64 := fun _ => 0
/-- x laid over the byte at that place. -/
def layB (s : Nat → BitVec 64) (i x : Nat) : Nat → BitVec 64 := fun k => if k = i / 8 then s k ^^^ (BitVec.ofNat 64 x <<< (8 * (i % 8))) else s k
/-- The byte at that place. -/
def byteS (s : Nat → BitVec 64) (i : Nat) : Nat := (s (i / 8)).toNat / 2 ^ (8 * (i % 8)) % 256
/-- Bytes laid one behind the other from that place on. -/
def lays (s : Nat → BitVec 64) (i : Nat) : List UInt8 → Nat → BitVec 64
  | [] => s
  | x :: l => lays (layB s i x.toNat) (i + 1) l
/-- A sponge of that rate takes in bytes: its lanes, and how many of this block's. -/
def takeS (r : Nat) (p : (Nat → BitVec 64) × Nat) : List UInt8 → (Nat → BitVec 64) × Nat
  | [] => p
  | x :: l => takeS r (if p.2 + 1 = r then (keccak (layB p.1 p.2 x.toNat), 0) else (layB p.1 p.2 x.toNat, p.2 + 1)) l
def closedS (r e : Nat) (b : List UInt8) : Nat → BitVec 64 := layB (layB (takeS r (zeroS, 0) b).1 (takeS r (zeroS, 0) b).2 e) (r - 1) 128
/-- A sponge that took in all gives out: its lanes and its place behind p bytes. -/
def gv (r : Nat) (s : Nat → BitVec 64) : Nat → (Nat → BitVec 64) × Nat
  | 0 => (s, r)
  | p + 1 => if (gv r s p).2 = r then (keccak (gv r s p).1, 1) else ((gv r s p).1, (gv r s p).2 + 1)
def ob (r : Nat) (s : Nat → BitVec 64) (p : Nat) : Nat := if (gv r s p).2 = r then byteS (keccak (gv r s p).1) 0 else byteS (gv r s p).1 (gv r s p).2
def outL (r : Nat) (s : Nat → BitVec 64) (n : Nat) : List UInt8 := (List.range n).map fun p => UInt8.ofNat (ob r s p)
/-- What a sponge of that rate and that ending gives of the bytes b. -/
def spongeL (r e : Nat) (b : List UInt8) (n : Nat) : List UInt8 := outL r (closedS r e b) n

theorem outL_length (r : Nat) (s : Nat → BitVec 64) (n : Nat) : (outL r s n).length = n := by simp [outL]
theorem outL_take (r : Nat) (s : Nat → BitVec 64) (n m : Nat) (h : n ≤ m) : (outL r s m).take n = outL r s n := by
  unfold outL
  rw [← List.map_take, List.take_range, Nat.min_eq_left h]
theorem outL_succ (r : Nat) (s : Nat → BitVec 64) (n : Nat) : outL r s (n + 1) = outL r s n ++ [UInt8.ofNat (ob r s n)] := by
  unfold outL; rw [List.range_succ, List.map_append]; rfl
theorem spongeL_length (r e : Nat) (b : List UInt8) (n : Nat) : (spongeL r e b n).length = n := outL_length _ _ _
theorem gv_pos (r : Nat) (s : Nat → BitVec 64) (hr : 1 ≤ r) : ∀ p, 1 ≤ (gv r s p).2 ∧ (gv r s p).2 ≤ r
  | 0 => ⟨hr, Nat.le_refl _⟩
  | p + 1 => by
    have h := gv_pos r s hr p
    rw [gv]
    split
    · exact ⟨by omega, hr⟩
    · exact ⟨by omega, by show (gv r s p).2 + 1 ≤ r; omega⟩
/-- A block of what is given out. -/
theorem gv_run (r : Nat) (s : Nat → BitVec 64) (p : Nat) (h : (gv r s p).2 = r) : ∀ i, i < r → gv r s (p + (i + 1)) = (keccak (gv r s p).1, i + 1)
  | 0, _ => by rw [gv, if_pos h]
  | i + 1, hi => by
    have ih := gv_run r s p h i (by omega)
    have e : p + (i + 1 + 1) = p + (i + 1) + 1 := rfl
    rw [e, gv, ih, if_neg (by show ¬ i + 1 = r; omega)]
theorem ob_run (r : Nat) (s : Nat → BitVec 64) (p i : Nat) (h : (gv r s p).2 = r) (hi : i < r) : ob r s (p + i) = byteS (keccak (gv r s p).1) i := by
  unfold ob
  cases i with
  | zero => rw [Nat.add_zero, if_pos h]
  | succ i => rw [gv_run r s p h i (by omega), if_neg (by show ¬ i + 1 = r; omega)]

theorem takeS_append (r : Nat) : ∀ (l m : List UInt8) (p : (Nat → BitVec 64) × Nat), takeS r p (l ++ m) = takeS r (takeS r p l) m
  | [], _, _ => rfl
  | _ :: l, m, _ => takeS_append r l m _
theorem takeS_lt (r : Nat) (hr : 0 < r) : ∀ (l : List UInt8) (p : (Nat → BitVec 64) × Nat), p.2 < r → (takeS r p l).2 < r
  | [], _, h => h
  | _ :: l, p, h => by
    rw [takeS]
    refine takeS_lt r hr l _ ?_
    split
    · exact hr
    · show p.2 + 1 < r; omega
/-- What does not fill the block. -/
theorem takeS_short (r : Nat) : ∀ (l : List UInt8) (s : Nat → BitVec 64) (i : Nat), i + l.length < r → takeS r (s, i) l = (lays s i l, i + l.length)
  | [], _, _, _ => rfl
  | x :: l, s, i, h => by
    simp only [List.length_cons] at h
    rw [takeS, if_neg (by show ¬ i + 1 = r; omega), takeS_short r l _ _ (by show i + 1 + l.length < r; omega), lays]
    simp only [List.length_cons, Prod.mk.injEq, true_and]
    omega
/-- What fills it. -/
theorem takeS_block (r : Nat) : ∀ (l : List UInt8) (s : Nat → BitVec 64) (i : Nat), i + l.length = r → l ≠ [] → takeS r (s, i) l = (keccak (lays s i l), 0)
  | [], _, _, _, h => absurd rfl h
  | [x], s, i, h, _ => by
    rw [takeS, if_pos (by simpa using h)]
    rfl
  | x :: y :: l, s, i, h, _ => by
    simp only [List.length_cons] at h
    rw [takeS, if_neg (by show ¬ i + 1 = r; omega), takeS_block r (y :: l) _ _ (by simp only [List.length_cons]; omega) (by simp)]
    rfl
theorem lays_append : ∀ (l m : List UInt8) (s : Nat → BitVec 64) (i : Nat), lays s i (l ++ m) = lays (lays s i l) (i + l.length) m
  | [], _, _, _ => rfl
  | x :: l, m, s, i => by
    rw [List.cons_append, lays, lays_append l m, lays, List.length_cons]
    congr 1
    omega
theorem layB_zero (s : Nat → BitVec 64) (i : Nat) : layB s i 0 = s := by
  funext k
  unfold layB
  split
  · simp
  · rfl
theorem lays_zeros (s : Nat → BitVec 64) : ∀ (n i : Nat), lays s i (List.replicate n 0) = s
  | 0, _ => rfl
  | n + 1, i => by
    rw [List.replicate_succ, lays]
    rw [show (0 : UInt8).toNat = 0 from rfl, layB_zero]
    exact lays_zeros s n _

/-- The document's padding: the ending, noughts, and a one in the highest bit of the block's last byte. -/
def padTo (r n : Nat) : Nat := r - 1 - n % r
def padS (r : Nat) (b : List UInt8) (e : UInt8) (j : Nat) : List UInt8 := b ++ [e] ++ List.replicate j 0
def setLast (l : List UInt8) : List UInt8 := l.set (l.length - 1) (l.getD (l.length - 1) 0 ||| 128)
def padded (r : Nat) (b : List UInt8) (e : UInt8) : List UInt8 := setLast (padS r b e (padTo r b.length))
theorem padS_length (r : Nat) (b : List UInt8) (e : UInt8) (j : Nat) : (padS r b e j).length = b.length + 1 + j := by simp [padS]; omega
theorem padS_succ (r : Nat) (b : List UInt8) (e : UInt8) (j : Nat) : padS r b e (j + 1) = padS r b e j ++ [0] := by
  unfold padS; rw [List.replicate_succ', ← List.append_assoc]
theorem pad_mod (r n j : Nat) (hr : 0 < r) (hj : j ≤ padTo r n) : (n + 1 + j) % r = 0 ↔ j = padTo r n := by
  unfold padTo at *
  have h1 := Nat.mod_lt n hr
  have h2 : (n + 1 + j) % r = (n % r + 1 + j) % r := by
    rw [show n + 1 + j = n + (1 + j) by omega, show n % r + 1 + j = n % r + (1 + j) by omega, Nat.mod_add_mod]
  rw [h2]
  by_cases h3 : n % r + 1 + j = r
  · rw [h3, Nat.mod_self]; omega
  · rw [Nat.mod_eq_of_lt (by omega)]; omega
theorem setLast_length (l : List UInt8) : (setLast l).length = l.length := by simp [setLast]
theorem padded_length (r : Nat) (b : List UInt8) (e : UInt8) (hr : 0 < r) : (padded r b e).length = r * (b.length / r + 1) := by
  unfold padded
  rw [setLast_length, padS_length]
  unfold padTo
  have h1 := Nat.mod_lt b.length hr
  have h2 := Nat.div_add_mod b.length r
  rw [Nat.mul_add]
  omega
theorem takeS_at (r : Nat) (hr : 0 < r) : ∀ (l : List UInt8) (p : (Nat → BitVec 64) × Nat), p.2 < r → (takeS r p l).2 = (p.2 + l.length) % r
  | [], p, h => by rw [takeS, List.length_nil, Nat.add_zero, Nat.mod_eq_of_lt h]
  | x :: l, p, h => by
    rw [takeS]
    split
    · rename_i h1
      rw [takeS_at r hr l _ hr, List.length_cons, show p.2 + (l.length + 1) = r + l.length by omega, Nat.add_mod_left, Nat.zero_add]
    · rename_i h1
      rw [takeS_at r hr l _ (by show p.2 + 1 < r; omega), List.length_cons]
      congr 1
      show p.2 + 1 + l.length = p.2 + (l.length + 1)
      omega
theorem setLast_zero (b : List UInt8) (e : UInt8) : setLast (b ++ [e]) = b ++ [e ||| 128] := by
  unfold setLast
  simp
theorem setLast_succ (b : List UInt8) (e : UInt8) (z : Nat) : setLast (b ++ [e] ++ List.replicate (z + 1) 0) = b ++ ([e] ++ List.replicate z 0 ++ [128]) := by
  unfold setLast
  rw [List.replicate_succ', ← List.append_assoc, ← List.append_assoc, ← List.append_assoc]
  generalize b ++ [e] ++ List.replicate z 0 = c
  simp
theorem or_xor_nat : ∀ n : Nat, n < 128 → n ||| 128 = n ^^^ 128 := by decide +kernel
theorem or_xor_high (e : UInt8) (h : e.toNat < 128) : (e ||| 128).toNat = e.toNat ^^^ 128 := by
  rw [UInt8.toNat_or]
  exact or_xor_nat _ h
theorem layB_or (s : Nat → BitVec 64) (i : Nat) (e : UInt8) (he : e.toNat < 128) : layB s i (e ||| 128).toNat = layB (layB s i e.toNat) i 128 := by
  rw [or_xor_high e he]
  funext k
  unfold layB
  by_cases h : k = i / 8
  · rw [if_pos h, if_pos h, if_pos h, BitVec.xor_assoc]
    congr 1
    rw [← BitVec.shiftLeft_xor_distrib]
    congr 1
    rw [BitVec.ofNat_xor]
  · rw [if_neg h, if_neg h, if_neg h]
theorem takeS_padded (r : Nat) (b : List UInt8) (e : UInt8) (hr : 0 < r) (he : e.toNat < 128) : takeS r (zeroS, 0) (padded r b e) = (keccak (closedS r e.toNat b), 0) := by
  have hat := takeS_at r hr b (zeroS, 0) hr
  rw [Nat.zero_add] at hat
  have hlt := Nat.mod_lt b.length hr
  have hz : padTo r b.length + b.length % r + 1 = r := by unfold padTo; omega
  unfold padded padS closedS
  generalize padTo r b.length = z at *
  cases z with
  | zero =>
    rw [List.replicate_zero, List.append_nil, setLast_zero, takeS_append]
    generalize takeS r (zeroS, 0) b = p at *
    obtain ⟨s, i⟩ := p
    simp only at hat
    have e1 : lays s i [e ||| 128] = layB (layB s i e.toNat) (r - 1) 128 := by
      rw [show r - 1 = i by omega, ← layB_or s i e he]
      rfl
    rw [takeS_block r [e ||| 128] s i (by simp; omega) (by simp), e1]
  | succ z =>
    rw [setLast_succ, takeS_append]
    generalize takeS r (zeroS, 0) b = p at *
    obtain ⟨s, i⟩ := p
    simp only at hat
    have e1 : lays s i ([e] ++ List.replicate z 0 ++ [128]) = layB (layB s i e.toNat) (r - 1) 128 := by
      rw [lays_append, lays_append, lays_zeros, show i + ([e] ++ List.replicate z (0 : UInt8)).length = r - 1 by simp; omega]
      rfl
    rw [takeS_block r _ s i (by simp; omega) (by simp), e1]

/-- The document's state behind j blocks. -/
def absS (r : Nat) (m : List UInt8) : Nat → Nat → BitVec 64
  | 0 => zeroS
  | j + 1 => keccak (lays (absS r m j) 0 ((m.drop (r * j)).take r))
theorem absS_take (r : Nat) (m : List UInt8) (hr : 0 < r) : ∀ j, r * j ≤ m.length → takeS r (zeroS, 0) (m.take (r * j)) = (absS r m j, 0)
  | 0, _ => by simp [takeS, absS]
  | j + 1, h => by
    have h' : r * j + r ≤ m.length := by rw [Nat.mul_succ] at h; exact h
    have e : m.take (r * (j + 1)) = m.take (r * j) ++ (m.drop (r * j)).take r := by rw [Nat.mul_succ, List.take_add]
    have hl : ((m.drop (r * j)).take r).length = r := by simp; omega
    rw [e, takeS_append, absS_take r m hr j (by omega), takeS_block r _ _ _ (by omega) (by intro h0; rw [h0] at hl; simp at hl; omega), absS]
theorem absS_all (r : Nat) (b : List UInt8) (e : UInt8) (hr : 0 < r) (he : e.toNat < 128) : absS r (padded r b e) (b.length / r + 1) = keccak (closedS r e.toNat b) := by
  have h := absS_take r (padded r b e) hr (b.length / r + 1) (by rw [padded_length r b e hr]; exact Nat.le_refl _)
  rw [← padded_length r b e hr, List.take_length, takeS_padded r b e hr he] at h
  exact (congrArg Prod.fst h).symm
theorem lays_snoc (s : Nat → BitVec 64) (l : List UInt8) (x : UInt8) (i : Nat) : lays s i (l ++ [x]) = layB (lays s i l) (i + l.length) x.toNat := by
  rw [lays_append]; rfl
end Go.Proofs.YtmfogngfdgpahaaDoor
