/- Two arrays of numbers that are the same are equal. -/
import Derived.Test.YthapdohblphlgaaArr
import Derived.Laws.StructEq
namespace Go.Proofs.Ythapdohblphlgaa
open Go.RowKit Go.Deep
theorem run_part {P : Program} (w : World) (elem : TypeId) (n : Nat) (k : IntKind) (f : Nat → Value) (he : P.underlying elem = some (.int k)) (hi : (P.info? elem).map (fun i => i.size) = some 1) (j : Nat) (hj : j < n) :
    (part elem (arrOf n f) j).run P w = .ok (f j) w := by
  cases hq : P.info? elem with
  | none => simp [hq] at hi
  | some i =>
    have hs : i.size = 1 := by simpa [hq] using hi
    have hg : (isAgg elem).run P w = .ok false w := by
      unfold isAgg
      rw [Sem.run_bind, run_underlying he w]
      simp
    have hc : (arrOf n f)[j]? = some (f j) := arrOf_get n f j hj
    simp [part, hg, hc, sizeOf, typeInfo, hq, hs, Result.andThen]
theorem run_eq_arr {P : Program} (w : World) (d : Nat) (t elem : TypeId) (n : Nat) (k : IntKind) (z : Nat → Int) (ht : P.underlying t = some (.array n elem)) (he : P.underlying elem = some (.int k)) (hi : (P.info? elem).map (fun i => i.size) = some 1) :
    (Op.equalIn (d + 2) t (.agg (arrOf n fun i => .int k (z i))) (.agg (arrOf n fun i => .int k (z i)))).run P w = .ok true w := by
  have hp := fun j hj => run_part w elem n k (fun i => .int k (z i)) he hi j hj
  cases hq : P.info? elem with
  | none => simp [hq] at hi
  | some i =>
    have hs : i.size = 1 := by simpa [hq] using hi
    rw [Op.equalIn]
    simp [run_underlying ht, sizeOf, typeInfo, hq, hs, Std.Legacy.Range.forIn_eq_forIn_range']
    have hloop : ∀ l : List Nat, (∀ j ∈ l, j < n) → Sem.run P
          (forIn l (none, ()) fun i __s => do
            let __do_lift ← part elem (arrOf n fun i => Value.int k (z i)) i
            let __do_lift_1 ← part elem (arrOf n fun i => Value.int k (z i)) i
            let __do_lift ← Op.equalIn (d + 1) elem __do_lift __do_lift_1
            if __do_lift = false then pure (ForInStep.done (some false, ())) else pure (ForInStep.yield (none, ())))
          w = .ok ((none : Option Bool), ()) w := by
      intro l
      induction l with
      | nil => intro _; simp
      | cons j l ih =>
        intro hl
        have h1 := hp j (hl j (by simp))
        have h2 := run_equalIn_int (P := P) w d elem k k (z j) (z j) he
        simp [List.forIn_cons, h1, h2, ih (fun j hj => hl j (by simp [hj]))]
    rw [hloop _ (fun j hj => by simp [List.mem_range'] at hj; omega)]
    simp
/-- An operation on two values, its run known. -/
theorem wpList_bin2 {P : Program} {ops : Array Oper} {rest : List Oper} {o : Oper} {a : Act} {w : World} {Q : Exit → Act → World → Prop} (hgd : o.guard = none) (op : BinOp) (t t' : TypeId) (x y : Operand) (ho : o.op = .binOp op t x y t') {u v r : Value} (hq : ∀ w, (eqGuard op t x y u v).run P w = .ok () w) (hr : ∀ w, (binOp op t u v).run P w = .ok r w) (hx : a.eval x = u) (hy : a.eval y = v)
    (h : wpList P ops Q rest (a.put o.dst r) w) : wpList P ops Q (o :: rest) a w :=
  wpList_value hgd r (by simp [execOp, ho, hx, hy, hq, hr, Result.andThen]) h
theorem run_eql_arr {P : Program} (w : World) (t elem : TypeId) (n : Nat) (k : IntKind) (z : Nat → Int) (ht : P.underlying t = some (.array n elem)) (he : P.underlying elem = some (.int k)) (hi : (P.info? elem).map (fun i => i.size) = some 1) :
    (binOp .eql t (.agg (arrOf n fun i => .int k (z i))) (.agg (arrOf n fun i => .int k (z i)))).run P w = .ok (.bool true) w := by
  rw [run_eql_struct, run_eq_arr w 9998 t elem n k z ht he hi]
  rfl
end Go.Proofs.Ythapdohblphlgaa
