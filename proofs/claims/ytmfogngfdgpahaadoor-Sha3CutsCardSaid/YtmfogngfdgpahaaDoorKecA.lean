/- Keccak's steps: a word turned to the left; a column; what is laid over a column; theta. -/
import Derived.Test.YtmfogngfdgpahaaDoorKec
import Derived.Test.YtmfogngfdgpahaaDoorGrow
import Derived.Test.YtmfogngfdgpahaaDoorCopy
import Derived.StillTailTactics
namespace Go.Proofs.YtmfogngfdgpahaaDoor
open Go.RowKit Go.Deep

def l64 (s : Nat → BitVec 64) : Nat → Value := fun i => .int .u64 ((s i).toNat : Int)
theorem rol_amount : ∀ k : Nat, k < 64 → bits BinOp.and IntKind.u64 (k:Int) 63 = (k : Int) := by decide

set_option maxHeartbeats 400000 in
theorem rol_any (x : BitVec 64) (k : Nat) (w : World) (hk : k < 64) :
    Calls Tryd.prog 37 #[.int .u64 x.toNat, .int .i64 (k : Int)] w fun e w' => e = .returned (.int .u64 (rol x k).toNat) ∧ w' = w := by
  have hs : IntKind.u64.signed = false := rfl
  have ha := rol_amount k hk
  have h0 : (0 : Int) ≤ (k : Int) := by omega
  have h1 : (k : Int) ≤ 63 := by omega
  go_enter Tryd.func37, Tryd.ntmps37
  go_wp2
  go_ret
  refine ⟨?_, rfl⟩
  show Ending.returned (Value.int .u64 (bits .or .u64 ((x.toNat : Int) * 2 ^ k % 18446744073709551616) ((x.toNat : Int) / 2 ^ (64 - k)))) = _
  rw [shl64, shr32, or64]
  rfl
theorem rol_lit (x : BitVec 64) (i : Int) (w : World) (h0 : 0 ≤ i) (h1 : i < 64) :
    Calls Tryd.prog 37 #[.int .u64 x.toNat, .int .i64 i] w fun e w' => e = .returned (.int .u64 (rol x i.toNat).toNat) ∧ w' = w := by
  have h := rol_any x i.toNat w (by omega)
  rwa [show (i.toNat : Int) = i by omega] at h

set_option maxHeartbeats 800000 in
theorem column_any (y x m : Nat) (t : TypeId) (s : Nat → BitVec 64) (f : Nat → Value) (w : World) (hrow : w.rowIs y t m f) (hf : ∀ i, i < 25 → f i = l64 s i) (hm : 25 ≤ m) (hx : x < 5) :
    Calls Tryd.prog 35 #[.pointer (some ⟨y, 0, none⟩), .int .i64 (x : Int)] w fun e w' => e = .returned (.int .u64 (colS s x).toNat) ∧ ∃ n, w' = w.drewN n := by
  have c0 := hrow.cell (i := x) (by omega)
  have c1 := hrow.cell (i := x + 5) (by omega)
  have c2 := hrow.cell (i := x + 10) (by omega)
  have c3 := hrow.cell (i := x + 15) (by omega)
  have c4 := hrow.cell (i := x + 20) (by omega)
  rw [hf _ (by omega)] at c0 c1 c2 c3 c4
  unfold l64 at c0 c1 c2 c3 c4
  have b1 : (x : Int) < 5 := by omega
  clear hf hrow
  go_enter Tryd.func35, Tryd.ntmps35
  go_wp2
  go_quiet (fail)
  go_wp2
  go_ret
  refine ⟨?_, _, rfl⟩
  show Ending.returned (Value.int .u64 (bits .xor .u64 (bits .xor .u64 (bits .xor .u64 (bits .xor .u64 (s x).toNat (s (x + 5)).toNat) (s (x + 10)).toNat) (s (x + 15)).toNat) (s (x + 20)).toNat)) = _
  rw [xor64, xor64, xor64, xor64]
  rfl

/-- b laid over each lane of column x, as far as row j. -/
def layC (s : Nat → BitVec 64) (x : Nat) (b : BitVec 64) (j : Nat) (i : Nat) : BitVec 64 := if i % 5 = x ∧ i < x + 5 * j then s i ^^^ b else s i
theorem layC_zero (s : Nat → BitVec 64) (x : Nat) (b : BitVec 64) (i : Nat) : layC s x b 0 i = s i := by unfold layC; rw [if_neg (by omega)]
theorem layC_step (s : Nat → BitVec 64) (x : Nat) (b : BitVec 64) (j i : Nat) (hx : x < 5) : layC s x b (j + 1) i = if i = x + 5 * j then s (x + 5 * j) ^^^ b else layC s x b j i := by
  unfold layC
  by_cases e : i = x + 5 * j
  · subst e; rw [if_pos (by omega), if_pos rfl]
  · rw [if_neg e]
    by_cases h : i % 5 = x ∧ i < x + 5 * j
    · rw [if_pos h, if_pos (by omega)]
    · rw [if_neg h, if_neg (by omega)]

set_option maxHeartbeats 800000 in
theorem slay_any (y x : Nat) (t : TypeId) (s : Nat → BitVec 64) (b : BitVec 64) (w : World) (hrow : w.rowIs y t 25 (l64 s)) (hx : x < 5) :
    Calls Tryd.prog 36 #[.pointer (some ⟨y, 0, none⟩), .int .i64 (x : Int), .int .u64 (b.toNat : Int)] w fun e w' => e = .returned (.tuple #[]) ∧ w'.rowIs y t 25 (l64 (layC s x b 5)) ∧ w.grownBy w' (some y) := by
  have b1 : (x : Int) < 5 := by omega
  go_enter Tryd.func36, Tryd.ntmps36
  go_wp2
  go_loopw [6] (fun i wr => ∃ j : Nat, j ≤ 5 ∧ i = .int .i64 ((x + 5 * j : Nat) : Int) ∧ wr.rowIs y t 25 (l64 (layC s x b j)) ∧ w.grownBy wr (some y)) (fun i _ => x + 25 - (intOf i).toNat)
  case atStart => exact ⟨0, Nat.zero_le _, rfl, hrow.congr fun i _ => by unfold l64; rw [layC_zero], grownBy_refl _ _⟩
  case round =>
    obtain ⟨j, hj, rfl, hr, hg⟩ := hrel
    clear hrow
    by_cases hlt : j < 5
    · have c0 := hr.cell (i := x + 5 * j) (by omega)
      have hfr := hr.frozen (x + 5 * j)
      unfold l64 layC at c0
      rw [if_neg (by omega)] at c0
      have b2 : (((x + 5 * j : Nat) : Int)) < 25 := by omega
      generalize hi : x + 5 * j = i at *
      have HI := Lib.hid hi
      clear hi
      go_wp2
      go_region
      go_wp2
      go_roundw
      case rel =>
        refine ⟨j + 1, by omega, by rw [← HI.out]; go_num, ((hr.set i _).drew).congr fun k hk => ?_, gb_drew (gb_setb hg _) 1⟩
        show (if k = i then _ else _) = _
        unfold l64
        rw [layC_step s x b j k hx, HI.out]
        by_cases e : k = i
        · rw [if_pos e, if_pos e]
          exact congrArg (Value.int .u64) (xor64 _ _)
        · rw [if_neg e, if_neg e]
      case measure => simp [intOf]; omega
    · obtain rfl : j = 5 := by omega
      have b2 : ¬ (((x + 5 * 5 : Nat) : Int)) < 25 := by omega
      go_wp2
      go_end0
      exact ⟨rfl, hr, hg⟩

theorem layC_all (s : Nat → BitVec 64) (x : Nat) (b : BitVec 64) (i : Nat) (hi : i < 25) : layC s x b 5 i = if i % 5 = x then s i ^^^ b else s i := by
  unfold layC
  by_cases e : i % 5 = x
  · rw [if_pos e, if_pos (by omega)]
  · rw [if_neg e, if_neg (by omega)]

theorem column_lit (y : Nat) (x : Int) (t : TypeId) (s : Nat → BitVec 64) (w : World) (hrow : w.rowIs y t 25 (l64 s)) (h0 : 0 ≤ x) (hx : x < 5) :
    Calls Tryd.prog 35 #[.pointer (some ⟨y, 0, none⟩), .int .i64 x] w fun e w' => e = .returned (.int .u64 (colS s x.toNat).toNat) ∧ w'.rowIs y t 25 (l64 s) ∧ w.grownBy w' (some y) := by
  have h := column_any y x.toNat 25 t s _ w hrow (fun _ _ => rfl) (by omega) (by omega)
  rw [show (x.toNat : Int) = x by omega] at h
  refine h.mono ?_
  rintro e w1 ⟨rfl, n, rfl⟩
  exact ⟨rfl, hrow, gb_drew (grownBy_refl _ _) n⟩
theorem slay_lit (y : Nat) (x : Int) (t : TypeId) (s : Nat → BitVec 64) (b : Int) (B : BitVec 64) (w : World) (hrow : w.rowIs y t 25 (l64 s)) (h0 : 0 ≤ x) (hx : x < 5) (hb : b = (B.toNat : Int)) :
    Calls Tryd.prog 36 #[.pointer (some ⟨y, 0, none⟩), .int .i64 x, .int .u64 b] w fun e w' => e = .returned (.tuple #[]) ∧ w'.rowIs y t 25 (l64 (layC s x.toNat B 5)) ∧ w.grownBy w' (some y) := by
  have h := slay_any y x.toNat t s B w hrow (by omega)
  rw [show (x.toNat : Int) = x by omega] at h
  rw [hb]
  exact h

set_option maxHeartbeats 1600000 in
theorem theta_any (y : Nat) (t : TypeId) (s : Nat → BitVec 64) (w : World) (hrow : w.rowIs y t 25 (l64 s)) :
    Calls Tryd.prog 28 #[.pointer (some ⟨y, 0, none⟩)] w fun e w' => e = .returned (.tuple #[]) ∧ w'.rowIs y t 25 (l64 (thetaS s)) ∧ w.grownBy w' (some y) := by
  go_enter Tryd.func28, Tryd.ntmps28
  have hg := grownBy_refl w (some y)
  go_wp2_with (first
    | (go_at_call 35; refine (column_lit y _ t s _ hrow (by omega) (by omega)).mono ?_; rintro e w1 ⟨rfl, hr1, hg1⟩
       replace hrow := hr1
       replace hg := grownBy_trans hg hg1
       clear hr1 hg1)
    | (go_at_call 37; refine (rol_lit _ _ _ (by omega) (by omega)).mono ?_; rintro e w1 ⟨rfl, rfl⟩)
    | (go_at_call 36; refine (slay_lit y _ t _ _ _ _ hrow (by omega) (by omega) (xor64 _ _)).mono ?_; rintro e w1 ⟨rfl, hr1, hg1⟩
       replace hrow := hr1
       replace hg := grownBy_trans hg hg1
       clear hr1 hg1))
  go_end0
  refine ⟨rfl, hrow.congr fun i hi => congrArg (fun x : BitVec 64 => Value.int .u64 (x.toNat : Int)) ?_, hg⟩
  rw [layC_all _ _ _ _ hi, layC_all _ _ _ _ hi, layC_all _ _ _ _ hi, layC_all _ _ _ _ hi, layC_all _ _ _ _ hi]
  unfold thetaS thetaD
  have h5 : i % 5 = 0 ∨ i % 5 = 1 ∨ i % 5 = 2 ∨ i % 5 = 3 ∨ i % 5 = 4 := by omega
  rcases h5 with h | h | h | h | h <;> rw [h] <;> rfl
end Go.Proofs.YtmfogngfdgpahaaDoor
