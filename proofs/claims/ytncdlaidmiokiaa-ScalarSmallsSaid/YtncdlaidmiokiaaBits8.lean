/- Operations on bytes, one at a time: quotients and remainders by 8, shifts, masks. -/
import Derived.Test.YtncdlaidmiokiaaMM1
namespace Go.Proofs.Ytncdlaidmiokiaa
open Go.RowKit Go.Deep
set_option linter.unusedSimpArgs false
set_option linter.unusedVariables false

theorem wpList_quo8 {ops : Array Oper} {Q : Exit → Act → World → Prop} {a : Act} {w : World} {rest : List Oper} {o : Oper} (hgd : o.guard = none) (x y : Operand) (ho : o.op = .binOp .quo 3 x y 3) {t q : Nat}
    (hx : a.eval x = .int .i64 (t : Int)) (hy : a.eval y = .int .i64 8) (hq : q = t / 8) (ht : t < 1000) (h : wpList Try.prog ops Q rest (a.put o.dst (.int .i64 (q : Int))) w) : wpList Try.prog ops Q (o :: rest) a w := by
  refine wpList_value hgd (.int .i64 (q : Int)) ?_ h
  have h1 : IntKind.i64.wrap ((t : Int).tdiv 8) = (q : Int) := by
    rw [Int.tdiv_eq_ediv_of_nonneg (by omega), IntWalk.i64_in _ (by omega)]
    omega
  have h2 : IntKind.i64.wrap ((t : Int) / 8) = (q : Int) := by
    rw [IntWalk.i64_in _ (by omega)]
    omega
  clear hq h
  rw [exec_mkOp, ho]
  simp only [execOp, mkOp, hx, hy]
  go_simp
theorem wpList_rem8 {ops : Array Oper} {Q : Exit → Act → World → Prop} {a : Act} {w : World} {rest : List Oper} {o : Oper} (hgd : o.guard = none) (x y : Operand) (ho : o.op = .binOp .rem 3 x y 3) {t q : Nat}
    (hx : a.eval x = .int .i64 (t : Int)) (hy : a.eval y = .int .i64 8) (hq : q = t % 8) (ht : t < 1000) (h : wpList Try.prog ops Q rest (a.put o.dst (.int .i64 (q : Int))) w) : wpList Try.prog ops Q (o :: rest) a w := by
  refine wpList_value hgd (.int .i64 (q : Int)) ?_ h
  have h1 : (t : Int).tmod 8 = (q : Int) := by
    rw [Int.tmod_eq_emod_of_nonneg (by omega)]
    omega
  have h2 : IntKind.i64.wrap ((t : Int).tmod 8) = (q : Int) := by
    rw [h1, IntWalk.i64_in _ (by omega)]
  clear hq h
  rw [exec_mkOp, ho]
  simp only [execOp, mkOp, hx, hy]
  go_simp
theorem wpList_shr8 {ops : Array Oper} {Q : Exit → Act → World → Prop} {a : Act} {w : World} {rest : List Oper} {o : Oper} (hgd : o.guard = none) (x y : Operand) (ho : o.op = .binOp .shr 5 x y 3) {t r q : Nat}
    (hx : a.eval x = .int .u8 (t : Int)) (hy : a.eval y = .int .i64 (r : Int)) (hq : q = t / 2 ^ r) (hr : r < 8) (ht : t < 256) (h : wpList Try.prog ops Q rest (a.put o.dst (.int .u8 (q : Int))) w) : wpList Try.prog ops Q (o :: rest) a w := by
  refine wpList_value hgd (.int .u8 (q : Int)) ?_ h
  have h1 : (t : Int) / 2 ^ r = (q : Int) := by
    rw [hq]
    simp
  have h3 : IntKind.u8.wrap (q : Int) = (q : Int) := IntWalk.u8_in _ ⟨by omega, by have := Nat.div_le_self t (2 ^ r); omega⟩
  have h4 : ¬ ((r : Int) < 0) := by omega
  clear hq h
  rw [exec_mkOp, ho]
  simp only [execOp, mkOp, hx, hy]
  go_simp
theorem wpList_and1 {ops : Array Oper} {Q : Exit → Act → World → Prop} {a : Act} {w : World} {rest : List Oper} {o : Oper} (hgd : o.guard = none) (x y : Operand) (ho : o.op = .binOp .and 5 x y 5) {t q : Nat}
    (hx : a.eval x = .int .u8 (t : Int)) (hy : a.eval y = .int .u8 1) (hq : q = t % 2) (ht : t < 256) (h : wpList Try.prog ops Q rest (a.put o.dst (.int .u8 (q : Int))) w) : wpList Try.prog ops Q (o :: rest) a w := by
  refine wpList_value hgd (.int .u8 (q : Int)) ?_ h
  have h1 := bit_u8 t ht
  rw [← hq] at h1
  clear hq h
  rw [exec_mkOp, ho]
  simp only [execOp, mkOp, hx, hy]
  go_simp
theorem wpList_shr7 {ops : Array Oper} {Q : Exit → Act → World → Prop} {a : Act} {w : World} {rest : List Oper} {o : Oper} {ty : TypeId} (hgd : o.guard = none) (x y : Operand) (ho : o.op = .binOp .shr 5 x y ty) {t q : Nat}
    (hx : a.eval x = .int .u8 (t : Int)) (hy : a.eval y = .int .u64 7) (hq : q = t / 128) (ht : t < 256) (h : wpList Try.prog ops Q rest (a.put o.dst (.int .u8 (q : Int))) w) : wpList Try.prog ops Q (o :: rest) a w := by
  refine wpList_value hgd (.int .u8 (q : Int)) ?_ h
  have h1 : (t : Int) / 2 ^ 7 = (q : Int) := by omega
  have h2 : (t : Int) / 128 = (q : Int) := by omega
  have h3 : IntKind.u8.wrap (q : Int) = (q : Int) := IntWalk.u8_in _ ⟨by omega, by omega⟩
  clear hq h
  rw [exec_mkOp, ho]
  simp only [execOp, mkOp, hx, hy]
  go_simp
theorem wpList_shl1 {ops : Array Oper} {Q : Exit → Act → World → Prop} {a : Act} {w : World} {rest : List Oper} {o : Oper} {ty : TypeId} (hgd : o.guard = none) (x y : Operand) (ho : o.op = .binOp .shl 5 x y ty) {t q : Nat}
    (hx : a.eval x = .int .u8 (t : Int)) (hy : a.eval y = .int .u64 1) (hq : q = 2 * t % 256) (h : wpList Try.prog ops Q rest (a.put o.dst (.int .u8 (q : Int))) w) : wpList Try.prog ops Q (o :: rest) a w := by
  refine wpList_value hgd (.int .u8 (q : Int)) ?_ h
  have h1 : IntKind.u8.wrap ((t : Int) * 2 ^ 1) = (q : Int) := by rw [IntKind.wrap_u8]; omega
  have h2 : IntKind.u8.wrap ((t : Int) * 2) = (q : Int) := by rw [IntKind.wrap_u8]; omega
  clear hq h
  rw [exec_mkOp, ho]
  simp only [execOp, mkOp, hx, hy]
  go_simp
theorem or_even (s c : Nat) (hs : s < 256) (h2 : s % 2 = 0) (hc : c ≤ 1) : bits .or .u8 (s : Int) (c : Int) = ((s + c : Nat) : Int) := by
  have g : ∀ q : Fin 128, ∀ c : Fin 2, bits .or .u8 ((2 * q.val : Nat) : Int) ((c.val : Nat) : Int) = ((2 * q.val + c.val : Nat) : Int) := by decide +kernel
  have h := g ⟨s / 2, by omega⟩ ⟨c, by omega⟩
  simp only at h
  rwa [show 2 * (s / 2) = s by omega] at h
theorem wpList_or1 {ops : Array Oper} {Q : Exit → Act → World → Prop} {a : Act} {w : World} {rest : List Oper} {o : Oper} (hgd : o.guard = none) (x y : Operand) (ho : o.op = .binOp .or 5 x y 5) {t c q : Nat}
    (hx : a.eval x = .int .u8 (t : Int)) (hy : a.eval y = .int .u8 (c : Int)) (ht : t < 256) (h2 : t % 2 = 0) (hc : c ≤ 1) (hq : q = t + c) (h : wpList Try.prog ops Q rest (a.put o.dst (.int .u8 (q : Int))) w) : wpList Try.prog ops Q (o :: rest) a w := by
  refine wpList_value hgd (.int .u8 (q : Int)) ?_ h
  have h1 := or_even t c ht h2 hc
  rw [← hq] at h1
  clear hq h h2
  rw [exec_mkOp, ho]
  simp only [execOp, mkOp, hx, hy]
  go_simp
end Go.Proofs.Ytncdlaidmiokiaa
