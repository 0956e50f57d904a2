/- Words: the program's turns, choices and majorities, and the document's. -/
import Derived.Test.YthapdohblphlgaaSha
import Derived.Deep.QuietTactic
import Derived.BigQuiet
namespace Go.Proofs.Ythapdohblphlgaa
open Go.RowKit Go.Deep
theorem below_drewN {B : Nat} {u v : World} (h : Below B u v) (n : Nat) : Below B u (v.drewN n) := h.trans ⟨rfl, rfl, rfl, Nat.le_refl _, fun _ _ => rfl⟩

theorem rl_amount32 : ∀ k : Nat, k < 32 → 0 < k → bits BinOp.and IntKind.u64 (IntKind.u64.wrap (-(k:Int))) 31 = (32 - k : Int) := by decide

theorem rl_amount64 : ∀ k : Nat, k < 64 → 0 < k → bits BinOp.and IntKind.u64 (IntKind.u64.wrap (-(k:Int))) 63 = (64 - k : Int) := by decide

end Go.Proofs.Ythapdohblphlgaa
