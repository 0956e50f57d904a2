/- Words: the program's turns, choices and majorities, and the document's. -/
import Derived.Test.YtgfgnjlbghakfaaSha
import Derived.Deep.QuietTactic
import Derived.BigQuiet
namespace Go.Proofs.Ytgfgnjlbghakfaa
open Go.RowKit Go.Deep
theorem below_drewN {B : Nat} {u v : World} (h : Below B u v) (n : Nat) : Below B u (v.drewN n) := h.trans ⟨rfl, rfl, rfl, Nat.le_refl _, fun _ _ => rfl⟩

theorem rl_amount32 : ∀ k : Nat, k < 32 → 0 < k → bits BinOp.and IntKind.u64 (IntKind.u64.wrap (-(k:Int))) 31 = (32 - k : Int) := by decide

set_option maxHeartbeats 400000 in
/-- math/bits: to the left by less than nothing is to the right. -/
theorem rotl32_any (x : BitVec 32) (k : Nat) (w : World) (hk : k < 32) (hk0 : 0 < k) :
    Calls Try.prog 52 #[.int .u32 x.toNat, .int .i64 (-(k:Int))] w fun e w' => e = .returned (.int .u32 (rotr x k).toNat) ∧ w' = w := by
  have hs : IntKind.u32.signed = false := rfl
  have ha := rl_amount32 k hk hk0
  go_enter Try.func52, Try.ntmps52
  go_wp2
  go_ret
  refine ⟨?_, rfl⟩
  show Ending.returned (Value.int .u32 (bits .or .u32 ((x.toNat : Int) * 2 ^ (32 - k) % 4294967296) ((x.toNat : Int) / 2 ^ (32 - (32 - k))))) = _
  rw [shl32, shr32, or32, show 32 - (32 - k) = k by omega, BitVec.or_comm]
  rfl

theorem rotl32_lit (x : BitVec 32) (i : Int) (w : World) (h1 : -32 < i) (h2 : i < 0) :
    Calls Try.prog 52 #[.int .u32 x.toNat, .int .i64 i] w fun e w' => e = .returned (.int .u32 (rotr x (-i).toNat).toNat) ∧ w' = w := by
  have h := rotl32_any x (-i).toNat w (by omega) (by omega)
  rwa [show (-((-i).toNat : Int)) = i by omega] at h

set_option maxHeartbeats 400000 in
theorem turn32_any (x : BitVec 32) (i j k : Nat) (w : World) (hi : i < 32) (hi0 : 0 < i) (hj : j < 32) (hj0 : 0 < j) (hk : k < 32) (hk0 : 0 < k) :
    Calls Try.prog 45 #[.int .u32 x.toNat, .int .i64 i, .int .i64 j, .int .i64 k] w fun e w' => e = .returned (.int .u32 (tri x i j k).toNat) ∧ w' = w := by
  have n1 : wrap64 (-(i : Int)) = -(i : Int) := IntWalk.wrap64_in _ (by omega)
  have n2 : wrap64 (-(j : Int)) = -(j : Int) := IntWalk.wrap64_in _ (by omega)
  have n3 : wrap64 (-(k : Int)) = -(k : Int) := IntWalk.wrap64_in _ (by omega)
  have m1 : IntKind.i64.wrap (-(i : Int)) = -(i : Int) := IntWalk.i64_in _ (by omega)
  have m2 : IntKind.i64.wrap (-(j : Int)) = -(j : Int) := IntWalk.i64_in _ (by omega)
  have m3 : IntKind.i64.wrap (-(k : Int)) = -(k : Int) := IntWalk.i64_in _ (by omega)
  go_enter Try.func45, Try.ntmps45
  go_wp2_with (go_at_call 52; refine (rotl32_any _ _ _ ‹_› ‹_›).mono ?_; rintro e w1 ⟨rfl, rfl⟩)
  go_ret
  refine ⟨?_, rfl⟩
  show Ending.returned (Value.int .u32 (bits .xor .u32 (bits .xor .u32 (rotr x i).toNat (rotr x j).toNat) (rotr x k).toNat)) = _
  rw [xor32, xor32]
  rfl

set_option maxHeartbeats 400000 in
theorem choose32_any (x y z : BitVec 32) (w : World) :
    Calls Try.prog 46 #[.int .u32 x.toNat, .int .u32 y.toNat, .int .u32 z.toNat] w fun e w' => e = .returned (.int .u32 (chz x y z).toNat) ∧ w' = w := by
  have hs : IntKind.u32.signed = false := rfl
  go_enter Try.func46, Try.ntmps46
  go_wp2
  go_ret
  refine ⟨?_, rfl⟩
  show Ending.returned (Value.int .u32 (bits .xor .u32 (bits .and .u32 x.toNat y.toNat) (bits .and .u32 (bits .xor .u32 IntKind.u32.max x.toNat) z.toNat))) = _
  rw [not32, and32, and32, xor32]
  rfl

set_option maxHeartbeats 400000 in
theorem most32_any (x y z : BitVec 32) (w : World) :
    Calls Try.prog 47 #[.int .u32 x.toNat, .int .u32 y.toNat, .int .u32 z.toNat] w fun e w' => e = .returned (.int .u32 (maj x y z).toNat) ∧ w' = w := by
  go_enter Try.func47, Try.ntmps47
  go_wp2
  go_ret
  refine ⟨?_, rfl⟩
  show Ending.returned (Value.int .u32 (bits .xor .u32 (bits .xor .u32 (bits .and .u32 x.toNat y.toNat) (bits .and .u32 x.toNat z.toNat)) (bits .and .u32 y.toNat z.toNat))) = _
  rw [and32, and32, and32, xor32, xor32]
  rfl

theorem turn32_lit (x : BitVec 32) (i j k : Int) (w : World) (hi : i < 32) (hi0 : 0 < i) (hj : j < 32) (hj0 : 0 < j) (hk : k < 32) (hk0 : 0 < k) :
    Calls Try.prog 45 #[.int .u32 x.toNat, .int .i64 i, .int .i64 j, .int .i64 k] w fun e w' => e = .returned (.int .u32 (tri x i.toNat j.toNat k.toNat).toNat) ∧ w' = w := by
  have h := turn32_any x i.toNat j.toNat k.toNat w (by omega) (by omega) (by omega) (by omega) (by omega) (by omega)
  rwa [show (i.toNat : Int) = i by omega, show (j.toNat : Int) = j by omega, show (k.toNat : Int) = k by omega] at h

set_option maxHeartbeats 400000 in
/-- The document's own turn to the right: its region draws its order. -/
theorem rot32_any (x : BitVec 32) (k : Nat) (w : World) (hk : k < 32) (hk0 : 0 < k) :
    Calls Try.prog 23 #[.int .u32 x.toNat, .int .i64 (k:Int)] w fun e w' => e = .returned (.int .u32 (rotr x k).toNat) ∧ ∃ n, w' = w.drewN n := by
  have hs : IntKind.u32.signed = false := rfl
  have h0 : (0 : Int) ≤ (k : Int) := by omega
  have h1 : (0 : Int) ≤ (32 : Int) - (k : Int) := by omega
  have h2 : (k : Int) ≤ 32 := by omega
  go_enter Try.func23, Try.ntmps23
  go_wp2
  go_quiet (fail)
  go_wp2
  go_ret
  refine ⟨?_, _, rfl⟩
  show Ending.returned (Value.int .u32 (bits .or .u32 ((x.toNat : Int) / 2 ^ k) ((x.toNat : Int) * 2 ^ (32 - k) % 4294967296))) = _
  rw [shl32, shr32, or32]
  rfl

theorem rot32_lit (x : BitVec 32) (i : Int) (w : World) (h1 : i < 32) (h2 : 0 < i) :
    Calls Try.prog 23 #[.int .u32 x.toNat, .int .i64 i] w fun e w' => e = .returned (.int .u32 (rotr x i.toNat).toNat) ∧ ∃ n, w' = w.drewN n := by
  have h := rot32_any x i.toNat w (by omega) (by omega)
  rwa [show (i.toNat : Int) = i by omega] at h

theorem rl_amount64 : ∀ k : Nat, k < 64 → 0 < k → bits BinOp.and IntKind.u64 (IntKind.u64.wrap (-(k:Int))) 63 = (64 - k : Int) := by decide

set_option maxHeartbeats 400000 in
/-- math/bits: to the left by less than nothing is to the right. -/
theorem rotl64_any (x : BitVec 64) (k : Nat) (w : World) (hk : k < 64) (hk0 : 0 < k) :
    Calls Try.prog 50 #[.int .u64 x.toNat, .int .i64 (-(k:Int))] w fun e w' => e = .returned (.int .u64 (rotr x k).toNat) ∧ w' = w := by
  have hs : IntKind.u64.signed = false := rfl
  have ha := rl_amount64 k hk hk0
  go_enter Try.func50, Try.ntmps50
  go_wp2
  go_ret
  refine ⟨?_, rfl⟩
  show Ending.returned (Value.int .u64 (bits .or .u64 ((x.toNat : Int) * 2 ^ (64 - k) % 18446744073709551616) ((x.toNat : Int) / 2 ^ (64 - (64 - k))))) = _
  rw [shl64, shr32, or64, show 64 - (64 - k) = k by omega, BitVec.or_comm]
  rfl

theorem rotl64_lit (x : BitVec 64) (i : Int) (w : World) (h1 : -64 < i) (h2 : i < 0) :
    Calls Try.prog 50 #[.int .u64 x.toNat, .int .i64 i] w fun e w' => e = .returned (.int .u64 (rotr x (-i).toNat).toNat) ∧ w' = w := by
  have h := rotl64_any x (-i).toNat w (by omega) (by omega)
  rwa [show (-((-i).toNat : Int)) = i by omega] at h

set_option maxHeartbeats 400000 in
theorem turn64_any (x : BitVec 64) (i j k : Nat) (w : World) (hi : i < 64) (hi0 : 0 < i) (hj : j < 64) (hj0 : 0 < j) (hk : k < 64) (hk0 : 0 < k) :
    Calls Try.prog 38 #[.int .u64 x.toNat, .int .i64 i, .int .i64 j, .int .i64 k] w fun e w' => e = .returned (.int .u64 (tri x i j k).toNat) ∧ w' = w := by
  have n1 : wrap64 (-(i : Int)) = -(i : Int) := IntWalk.wrap64_in _ (by omega)
  have n2 : wrap64 (-(j : Int)) = -(j : Int) := IntWalk.wrap64_in _ (by omega)
  have n3 : wrap64 (-(k : Int)) = -(k : Int) := IntWalk.wrap64_in _ (by omega)
  have m1 : IntKind.i64.wrap (-(i : Int)) = -(i : Int) := IntWalk.i64_in _ (by omega)
  have m2 : IntKind.i64.wrap (-(j : Int)) = -(j : Int) := IntWalk.i64_in _ (by omega)
  have m3 : IntKind.i64.wrap (-(k : Int)) = -(k : Int) := IntWalk.i64_in _ (by omega)
  go_enter Try.func38, Try.ntmps38
  go_wp2_with (go_at_call 50; refine (rotl64_any _ _ _ ‹_› ‹_›).mono ?_; rintro e w1 ⟨rfl, rfl⟩)
  go_ret
  refine ⟨?_, rfl⟩
  show Ending.returned (Value.int .u64 (bits .xor .u64 (bits .xor .u64 (rotr x i).toNat (rotr x j).toNat) (rotr x k).toNat)) = _
  rw [xor64, xor64]
  rfl

set_option maxHeartbeats 400000 in
theorem choose64_any (x y z : BitVec 64) (w : World) :
    Calls Try.prog 39 #[.int .u64 x.toNat, .int .u64 y.toNat, .int .u64 z.toNat] w fun e w' => e = .returned (.int .u64 (chz x y z).toNat) ∧ w' = w := by
  have hs : IntKind.u64.signed = false := rfl
  go_enter Try.func39, Try.ntmps39
  go_wp2
  go_ret
  refine ⟨?_, rfl⟩
  show Ending.returned (Value.int .u64 (bits .xor .u64 (bits .and .u64 x.toNat y.toNat) (bits .and .u64 (bits .xor .u64 IntKind.u64.max x.toNat) z.toNat))) = _
  rw [not64, and64, and64, xor64]
  rfl

set_option maxHeartbeats 400000 in
theorem most64_any (x y z : BitVec 64) (w : World) :
    Calls Try.prog 40 #[.int .u64 x.toNat, .int .u64 y.toNat, .int .u64 z.toNat] w fun e w' => e = .returned (.int .u64 (maj x y z).toNat) ∧ w' = w := by
  go_enter Try.func40, Try.ntmps40
  go_wp2
  go_ret
  refine ⟨?_, rfl⟩
  show Ending.returned (Value.int .u64 (bits .xor .u64 (bits .xor .u64 (bits .and .u64 x.toNat y.toNat) (bits .and .u64 x.toNat z.toNat)) (bits .and .u64 y.toNat z.toNat))) = _
  rw [and64, and64, and64, xor64, xor64]
  rfl

theorem turn64_lit (x : BitVec 64) (i j k : Int) (w : World) (hi : i < 64) (hi0 : 0 < i) (hj : j < 64) (hj0 : 0 < j) (hk : k < 64) (hk0 : 0 < k) :
    Calls Try.prog 38 #[.int .u64 x.toNat, .int .i64 i, .int .i64 j, .int .i64 k] w fun e w' => e = .returned (.int .u64 (tri x i.toNat j.toNat k.toNat).toNat) ∧ w' = w := by
  have h := turn64_any x i.toNat j.toNat k.toNat w (by omega) (by omega) (by omega) (by omega) (by omega) (by omega)
  rwa [show (i.toNat : Int) = i by omega, show (j.toNat : Int) = j by omega, show (k.toNat : Int) = k by omega] at h

set_option maxHeartbeats 400000 in
/-- The document's own turn to the right: its region draws its order. -/
theorem rot64_any (x : BitVec 64) (k : Nat) (w : World) (hk : k < 64) (hk0 : 0 < k) :
    Calls Try.prog 30 #[.int .u64 x.toNat, .int .i64 (k:Int)] w fun e w' => e = .returned (.int .u64 (rotr x k).toNat) ∧ ∃ n, w' = w.drewN n := by
  have hs : IntKind.u64.signed = false := rfl
  have h0 : (0 : Int) ≤ (k : Int) := by omega
  have h1 : (0 : Int) ≤ (64 : Int) - (k : Int) := by omega
  have h2 : (k : Int) ≤ 64 := by omega
  go_enter Try.func30, Try.ntmps30
  go_wp2
  go_quiet (fail)
  go_wp2
  go_ret
  refine ⟨?_, _, rfl⟩
  show Ending.returned (Value.int .u64 (bits .or .u64 ((x.toNat : Int) / 2 ^ k) ((x.toNat : Int) * 2 ^ (64 - k) % 18446744073709551616))) = _
  rw [shl64, shr32, or64]
  rfl

theorem rot64_lit (x : BitVec 64) (i : Int) (w : World) (h1 : i < 64) (h2 : 0 < i) :
    Calls Try.prog 30 #[.int .u64 x.toNat, .int .i64 i] w fun e w' => e = .returned (.int .u64 (rotr x i.toNat).toNat) ∧ ∃ n, w' = w.drewN n := by
  have h := rot64_any x i.toNat w (by omega) (by omega)
  rwa [show (i.toNat : Int) = i by omega] at h
end Go.Proofs.Ytgfgnjlbghakfaa
