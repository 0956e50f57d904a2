/- Words: the program's turns, choices and majorities, and the document's. -/
import Derived.Test.YtmfogngfdgpahaaDoorSha
import Derived.Deep.QuietTactic
import Derived.BigQuiet
namespace Go.Proofs.YtmfogngfdgpahaaDoor
open Go.RowKit Go.Deep
theorem below_drewN {B : Nat} {u v : World} (h : Below B u v) (n : Nat) : Below B u (v.drewN n) := h.trans ⟨rfl, rfl, rfl, Nat.le_refl _, fun _ _ => rfl⟩

theorem rl_amount32 : ∀ k : Nat, k < 32 → 0 < k → bits BinOp.and IntKind.u64 (IntKind.u64.wrap (-(k:Int))) 31 = (32 - k : Int) := by decide

theorem rl_amount64 : ∀ k : Nat, k < 64 → 0 < k → bits BinOp.and IntKind.u64 (IntKind.u64.wrap (-(k:Int))) 63 = (64 - k : Int) := by decide

set_option maxHeartbeats 400000 in
/-- math/bits: to the left by less than nothing is to the right. -/
theorem rotl64_any (x : BitVec 64) (k : Nat) (w : World) (hk : k < 64) (hk0 : 0 < k) :
    Calls Tryd.prog 37 #[.int .u64 x.toNat, .int .i64 (-(k:Int))] w fun e w' => e = .returned (.int .u64 (rotr x k).toNat) ∧ w' = w := by
  have hs : IntKind.u64.signed = false := rfl
  have ha := rl_amount64 k hk hk0
  go_enter Tryd.func37, Tryd.ntmps37
  go_wp2
  go_ret
  refine ⟨?_, rfl⟩
  show Ending.returned (Value.int .u64 (bits .or .u64 ((x.toNat : Int) * 2 ^ (64 - k) % 18446744073709551616) ((x.toNat : Int) / 2 ^ (64 - (64 - k))))) = _
  rw [shl64, shr32, or64, show 64 - (64 - k) = k by omega, BitVec.or_comm]
  rfl

theorem rotl64_lit (x : BitVec 64) (i : Int) (w : World) (h1 : -64 < i) (h2 : i < 0) :
    Calls Tryd.prog 37 #[.int .u64 x.toNat, .int .i64 i] w fun e w' => e = .returned (.int .u64 (rotr x (-i).toNat).toNat) ∧ w' = w := by
  have h := rotl64_any x (-i).toNat w (by omega) (by omega)
  rwa [show (-((-i).toNat : Int)) = i by omega] at h

end Go.Proofs.YtmfogngfdgpahaaDoor
