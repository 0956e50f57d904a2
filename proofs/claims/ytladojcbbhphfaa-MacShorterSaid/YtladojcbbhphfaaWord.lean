/- Words: the program's turns, choices and majorities, and the document's. -/
import Derived.Test.YtladojcbbhphfaaSha
import Derived.Deep.QuietTactic
import Derived.BigQuiet
namespace Go.Proofs.Ytladojcbbhphfaa
open Go.RowKit Go.Deep
theorem below_drewN {B : Nat} {u v : World} (h : Below B u v) (n : Nat) : Below B u (v.drewN n) := h.trans ⟨rfl, rfl, rfl, Nat.le_refl _, fun _ _ => rfl⟩

theorem rl_amount32 : ∀ k : Nat, k < 32 → 0 < k → bits BinOp.and IntKind.u64 (IntKind.u64.wrap (-(k:Int))) 31 = (32 - k : Int) := by decide

set_option maxHeartbeats 400000 in
/-- math/bits: to the left by less than nothing is to the right. -/
theorem rotl32_any (x : BitVec 32) (k : Nat) (w : World) (hk : k < 32) (hk0 : 0 < k) :
    Calls Try.prog 50 #[.int .u32 x.toNat, .int .i64 (-(k:Int))] w fun e w' => e = .returned (.int .u32 (rotr x k).toNat) ∧ w' = w := by
  have hs : IntKind.u32.signed = false := rfl
  have ha := rl_amount32 k hk hk0
  go_enter Try.func50, Try.ntmps50
  go_wp2
  go_ret
  refine ⟨?_, rfl⟩
  show Ending.returned (Value.int .u32 (bits .or .u32 ((x.toNat : Int) * 2 ^ (32 - k) % 4294967296) ((x.toNat : Int) / 2 ^ (32 - (32 - k))))) = _
  rw [shl32, shr32, or32, show 32 - (32 - k) = k by omega, BitVec.or_comm]
  rfl

theorem rotl32_lit (x : BitVec 32) (i : Int) (w : World) (h1 : -32 < i) (h2 : i < 0) :
    Calls Try.prog 50 #[.int .u32 x.toNat, .int .i64 i] w fun e w' => e = .returned (.int .u32 (rotr x (-i).toNat).toNat) ∧ w' = w := by
  have h := rotl32_any x (-i).toNat w (by omega) (by omega)
  rwa [show (-((-i).toNat : Int)) = i by omega] at h

set_option maxHeartbeats 400000 in
theorem turn32_any (x : BitVec 32) (i j k : Nat) (w : World) (hi : i < 32) (hi0 : 0 < i) (hj : j < 32) (hj0 : 0 < j) (hk : k < 32) (hk0 : 0 < k) :
    Calls Try.prog 43 #[.int .u32 x.toNat, .int .i64 i, .int .i64 j, .int .i64 k] w fun e w' => e = .returned (.int .u32 (tri x i j k).toNat) ∧ w' = w := by
  have n1 : wrap64 (-(i : Int)) = -(i : Int) := IntWalk.wrap64_in _ (by omega)
  have n2 : wrap64 (-(j : Int)) = -(j : Int) := IntWalk.wrap64_in _ (by omega)
  have n3 : wrap64 (-(k : Int)) = -(k : Int) := IntWalk.wrap64_in _ (by omega)
  have m1 : IntKind.i64.wrap (-(i : Int)) = -(i : Int) := IntWalk.i64_in _ (by omega)
  have m2 : IntKind.i64.wrap (-(j : Int)) = -(j : Int) := IntWalk.i64_in _ (by omega)
  have m3 : IntKind.i64.wrap (-(k : Int)) = -(k : Int) := IntWalk.i64_in _ (by omega)
  go_enter Try.func43, Try.ntmps43
  go_wp2_with (go_at_call 50; refine (rotl32_any _ _ _ ‹_› ‹_›).mono ?_; rintro e w1 ⟨rfl, rfl⟩)
  go_ret
  refine ⟨?_, rfl⟩
  show Ending.returned (Value.int .u32 (bits .xor .u32 (bits .xor .u32 (rotr x i).toNat (rotr x j).toNat) (rotr x k).toNat)) = _
  rw [xor32, xor32]
  rfl

set_option maxHeartbeats 400000 in
theorem choose32_any (x y z : BitVec 32) (w : World) :
    Calls Try.prog 44 #[.int .u32 x.toNat, .int .u32 y.toNat, .int .u32 z.toNat] w fun e w' => e = .returned (.int .u32 (chz x y z).toNat) ∧ w' = w := by
  have hs : IntKind.u32.signed = false := rfl
  go_enter Try.func44, Try.ntmps44
  go_wp2
  go_ret
  refine ⟨?_, rfl⟩
  show Ending.returned (Value.int .u32 (bits .xor .u32 (bits .and .u32 x.toNat y.toNat) (bits .and .u32 (bits .xor .u32 IntKind.u32.max x.toNat) z.toNat))) = _
  rw [not32, and32, and32, xor32]
  rfl

set_option maxHeartbeats 400000 in
theorem most32_any (x y z : BitVec 32) (w : World) :
    Calls Try.prog 45 #[.int .u32 x.toNat, .int .u32 y.toNat, .int .u32 z.toNat] w fun e w' => e = .returned (.int .u32 (maj x y z).toNat) ∧ w' = w := by
  go_enter Try.func45, Try.ntmps45
  go_wp2
  go_ret
  refine ⟨?_, rfl⟩
  show Ending.returned (Value.int .u32 (bits .xor .u32 (bits .xor .u32 (bits .and .u32 x.toNat y.toNat) (bits .and .u32 x.toNat z.toNat)) (bits .and .u32 y.toNat z.toNat))) = _
  rw [and32, and32, and32, xor32, xor32]
  rfl

theorem turn32_lit (x : BitVec 32) (i j k : Int) (w : World) (hi : i < 32) (hi0 : 0 < i) (hj : j < 32) (hj0 : 0 < j) (hk : k < 32) (hk0 : 0 < k) :
    Calls Try.prog 43 #[.int .u32 x.toNat, .int .i64 i, .int .i64 j, .int .i64 k] w fun e w' => e = .returned (.int .u32 (tri x i.toNat j.toNat k.toNat).toNat) ∧ w' = w := by
  have h := turn32_any x i.toNat j.toNat k.toNat w (by omega) (by omega) (by omega) (by omega) (by omega) (by omega)
  rwa [show (i.toNat : Int) = i by omega, show (j.toNat : Int) = j by omega, show (k.toNat : Int) = k by omega] at h

set_option maxHeartbeats 400000 in
/-- The document's own turn to the right: its region draws its order. -/
theorem rot32_any (x : BitVec 32) (k : Nat) (w : World) (hk : k < 32) (hk0 : 0 < k) :
    Calls Try.prog 31 #[.int .u32 x.toNat, .int .i64 (k:Int)] w fun e w' => e = .returned (.int .u32 (rotr x k).toNat) ∧ ∃ n, w' = w.drewN n := by
  have hs : IntKind.u32.signed = false := rfl
  have h0 : (0 : Int) ≤ (k : Int) := by omega
  have h1 : (0 : Int) ≤ (32 : Int) - (k : Int) := by omega
  have h2 : (k : Int) ≤ 32 := by omega
  go_enter Try.func31, Try.ntmps31
  go_wp2
  go_quiet (fail)
  go_wp2
  go_ret
  refine ⟨?_, _, rfl⟩
  show Ending.returned (Value.int .u32 (bits .or .u32 ((x.toNat : Int) / 2 ^ k) ((x.toNat : Int) * 2 ^ (32 - k) % 4294967296))) = _
  rw [shl32, shr32, or32]
  rfl

theorem rot32_lit (x : BitVec 32) (i : Int) (w : World) (h1 : i < 32) (h2 : 0 < i) :
    Calls Try.prog 31 #[.int .u32 x.toNat, .int .i64 i] w fun e w' => e = .returned (.int .u32 (rotr x i.toNat).toNat) ∧ ∃ n, w' = w.drewN n := by
  have h := rot32_any x i.toNat w (by omega) (by omega)
  rwa [show (i.toNat : Int) = i by omega] at h

theorem rl_amount64 : ∀ k : Nat, k < 64 → 0 < k → bits BinOp.and IntKind.u64 (IntKind.u64.wrap (-(k:Int))) 63 = (64 - k : Int) := by decide

end Go.Proofs.Ytladojcbbhphfaa
