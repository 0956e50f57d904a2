/- Two arrays of numbers, held against each other. -/
import Derived.Test.YthapdohblphlgaaEqArr
namespace Go.Proofs.Ythapdohblphlgaa
open Go.RowKit Go.Deep

theorem run_eq_arr2 {P : Program} (w : World) (d : Nat) (t elem : TypeId) (n : Nat) (k : IntKind) (z y : Nat → Int) (ht : P.underlying t = some (.array n elem)) (he : P.underlying elem = some (.int k)) (hi : (P.info? elem).map (fun i => i.size) = some 1) :
    (Op.equalIn (d + 2) t (.agg (arrOf n fun i => .int k (z i))) (.agg (arrOf n fun i => .int k (y i)))).run P w = .ok (decide (∀ j, j < n → z j = y j)) w := by
  have hp := fun j hj => run_part w elem n k (fun i => .int k (z i)) he hi j hj
  have hp2 := fun j hj => run_part w elem n k (fun i => .int k (y i)) he hi j hj
  cases hq : P.info? elem with
  | none => simp [hq] at hi
  | some i =>
    have hs : i.size = 1 := by simpa [hq] using hi
    rw [Op.equalIn]
    simp [run_underlying ht, sizeOf, typeInfo, hq, hs, Std.Legacy.Range.forIn_eq_forIn_range']
    have hloop : ∀ l : List Nat, (∀ j ∈ l, j < n) → Sem.run P
          (forIn l (none, ()) fun i __s => do
            let __do_lift ← part elem (arrOf n fun i => Value.int k (z i)) i
            let __do_lift_1 ← part elem (arrOf n fun i => Value.int k (y i)) i
            let __do_lift ← Op.equalIn (d + 1) elem __do_lift __do_lift_1
            if __do_lift = false then pure (ForInStep.done (some false, ())) else pure (ForInStep.yield (none, ())))
          w = .ok ((if ∀ j ∈ l, z j = y j then none else some false : Option Bool), ()) w := by
      intro l
      induction l with
      | nil => intro _; simp
      | cons j l ih =>
        intro hl
        have h1 := hp j (hl j (by simp))
        have h1' := hp2 j (hl j (by simp))
        have h2 := run_equalIn_int (P := P) w d elem k k (z j) (y j) he
        by_cases e : z j = y j
        · have h2' : Sem.run P (Op.equalIn (d + 1) elem (Value.int k (z j)) (Value.int k (y j))) w = .ok true w := by rw [h2, e]; simp
          have e2 : (∀ a ∈ j :: l, z a = y a) ↔ ∀ a ∈ l, z a = y a := by simp [e]
          simp only [e2]
          simp [List.forIn_cons, h1, h1', h2', ih (fun j hj => hl j (by simp [hj]))]
        · simp [List.forIn_cons, h1, h1', h2, e]
    rw [hloop _ (fun j hj => by simp [List.mem_range'] at hj; omega)]
    have hmem : (∀ j ∈ List.range' 0 n, z j = y j) ↔ ∀ j, j < n → z j = y j := by
      constructor
      · intro h j hj; exact h j (by simp [List.mem_range']; exact hj)
      · intro h j hj; exact h j (by simp [List.mem_range'] at hj; exact hj)
    by_cases h : ∀ j, j < n → z j = y j
    · rw [if_pos (hmem.2 h), decide_eq_true h]
      simp
    · rw [if_neg (fun h2 => h (hmem.1 h2)), decide_eq_false h]
      simp
theorem run_eql_arr2 {P : Program} (w : World) (t elem : TypeId) (n : Nat) (k : IntKind) (z y : Nat → Int) (ht : P.underlying t = some (.array n elem)) (he : P.underlying elem = some (.int k)) (hi : (P.info? elem).map (fun i => i.size) = some 1) :
    (binOp .eql t (.agg (arrOf n fun i => .int k (z i))) (.agg (arrOf n fun i => .int k (y i)))).run P w = .ok (.bool (decide (∀ j, j < n → z j = y j))) w := by
  rw [run_eql_struct, run_eq_arr2 w 9998 t elem n k z y ht he hi]
  rfl
theorem run_neq_arr2 {P : Program} (w : World) (t elem : TypeId) (n : Nat) (k : IntKind) (z y : Nat → Int) (ht : P.underlying t = some (.array n elem)) (he : P.underlying elem = some (.int k)) (hi : (P.info? elem).map (fun i => i.size) = some 1) :
    (binOp .neq t (.agg (arrOf n fun i => .int k (z i))) (.agg (arrOf n fun i => .int k (y i)))).run P w = .ok (.bool (!decide (∀ j, j < n → z j = y j))) w := by
  rw [run_neq_struct, run_eq_arr2 w 9998 t elem n k z y ht he hi]
  rfl
end Go.Proofs.Ythapdohblphlgaa
