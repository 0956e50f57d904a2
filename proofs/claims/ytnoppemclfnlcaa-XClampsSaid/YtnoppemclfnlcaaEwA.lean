/- The program's numbers below p: sums of words, products of words, what is reduced. -/
import Derived.Test.YtnoppemclfnlcaaEwM
import Derived.Shelf.Spec.BitsCarry
import Derived.Lib.Mul64
import Derived.Shelf.Bits.Mul64
set_option linter.unusedSimpArgs false
set_option linter.unusedVariables false
namespace Go.Proofs.Ytnoppemclfnlcaa
open Go.RowKit Go.Deep

def ewF (V : Nat) : Nat → Value := u64f (wd V)
theorem arrE : IsArr Try.prog 42 4 := ⟨by kernel_rfl, by kernel_rfl⟩
theorem arrW : IsArr Try.prog 40 4 := ⟨by kernel_rfl, by kernel_rfl⟩
theorem arrW8 : IsArr Try.prog 67 8 := ⟨by kernel_rfl, by kernel_rfl⟩
theorem zeroE : (Try.prog.info? 42).map (fun i => i.zero) = some (some (.agg (arrOf 4 (u64f fun _ => 0)))) := by kernel_rfl
theorem zeroW : (Try.prog.info? 40).map (fun i => i.zero) = some (some (.agg (arrOf 4 (u64f fun _ => 0)))) := by kernel_rfl
theorem zeroW8 : (Try.prog.info? 67).map (fun i => i.zero) = some (some (.agg (arrOf 8 (u64f fun _ => 0)))) := by kernel_rfl

/-- So many rows on the spot. -/
theorem rowsW3 (w : World) (F G : Nat → Value) (t : TypeId) : ∃ w3, w3 = ((w.alloc (.cells (arrOf 4 F) t)).alloc (.cells (arrOf 4 G) t)).alloc (.cells (arrOf 4 (u64f fun _ => 0)) t) ∧
    w3.rowIs w.heap.size t 4 F ∧ w3.rowIs (w.heap.size + 1) t 4 G ∧ w3.rowIs (w.heap.size + 1 + 1) t 4 (u64f fun _ => 0) ∧ Below w.heap.size w w3 ∧ w3.heap.size = w.heap.size + 1 + 1 + 1 := by
  refine ⟨_, rfl, ((rowIs_arr w 4 F t).alloc _).alloc _, ?_, ?_, (((Below.refl _ _).alloc (Nat.le_refl _) _).alloc (by simp) _).alloc (by simp; omega) _, by simp only [World.size_alloc]⟩
  · have h := (rowIs_arr (w.alloc (.cells (arrOf 4 F) t)) 4 G t).alloc (.cells (arrOf 4 (u64f fun _ => 0)) t)
    rwa [World.size_alloc] at h
  · have h := rowIs_arr ((w.alloc (.cells (arrOf 4 F) t)).alloc (.cells (arrOf 4 G) t)) 4 (u64f fun _ => 0) t
    rwa [World.size_alloc, World.size_alloc] at h
theorem rowsW2 (w : World) (F : Nat → Value) (t t' : TypeId) : ∃ w3, w3 = (w.alloc (.cells (arrOf 4 F) t)).alloc (.cells (arrOf 4 (u64f fun _ => 0)) t') ∧
    w3.rowIs w.heap.size t 4 F ∧ w3.rowIs (w.heap.size + 1) t' 4 (u64f fun _ => 0) ∧ Below w.heap.size w w3 ∧ w3.heap.size = w.heap.size + 1 + 1 := by
  refine ⟨_, rfl, (rowIs_arr w 4 F t).alloc _, ?_, ((Below.refl _ _).alloc (Nat.le_refl _) _).alloc (by simp) _, by simp only [World.size_alloc]⟩
  have h := rowIs_arr (w.alloc (.cells (arrOf 4 F) t)) 4 (u64f fun _ => 0) t'
  rwa [World.size_alloc] at h
theorem agg_putW (F G : Nat → Value) : arrOf 4 (fun i => putN F 0 4 G (0 + i)) = arrOf 4 G := arrOf_congr fun i hi => by
  unfold putN
  rw [if_pos (by omega)]
  simp only [Nat.zero_add, Nat.sub_zero]

/-- Add64 and Sub64: the model's own entries. -/
theorem add64_run (x y c : Nat) (hc : c ≤ 1) (w : World) : (callFunc 53 #[.int .u64 (x : Int), .int .u64 (y : Int), .int .u64 (c : Int)]).run Try.prog w =
    .ok (.value (.tuple #[.int .u64 (((x + y + c) % 18446744073709551616 : Nat) : Int), .int .u64 (((x + y + c) / 18446744073709551616 : Nat) : Int)])) w := by
  rw [run_callFunc_extern Try.func53 (by kernel_rfl) (by kernel_rfl) (by kernel_rfl) (e := add64Entry) (by kernel_rfl), run_add64 x y c (by omega) (by omega) (by omega) (by omega)]
  simp only [Result.andThen]
  congr 5 <;> omega
theorem sub64_run (x y b : Nat) (hb : b ≤ 1) (w : World) : (callFunc 54 #[.int .u64 (x : Int), .int .u64 (y : Int), .int .u64 (b : Int)]).run Try.prog w =
    .ok (.value (.tuple #[.int .u64 (((x + 18446744073709551616 - y - b) % 18446744073709551616 : Nat) : Int), .int .u64 ((if x < y + b then 1 else 0 : Nat) : Int)])) w := by
  rw [run_callFunc_extern Try.func54 (by kernel_rfl) (by kernel_rfl) (by kernel_rfl) (e := sub64Entry) (by kernel_rfl), run_sub64 x y b hb]
  rfl
/-- A call of an entry of the model's, its run known. -/
theorem exec_entry {P : Program} (ρ : Operand → Value) (f : Nat) (xs : Array Operand) (ts : Array TypeId) (t : TypeId) (args : Array Value) (v : Value) (w : World) (hρ : ρ (.func f) = .func (.func f) #[] #[]) (hargs : xs.map ρ = args) (h : (callFunc f args).run P w = .ok (.value v) w) :
    (execOp ρ (mkOp (.call { callee := .value (.func f), args := xs, argTypes := ts }) t)).run P w = .ok (.value v) w := by
  simp [execOp, mkOp, resolve, hρ, Deferred.ofValue, invoke, hargs, h]

theorem nat_var (n : Nat) : ∃ m, m = n := ⟨n, rfl⟩
theorem wrap_nat (n : Nat) (h : n < 18446744073709551616) : IntKind.u64.wrap (n : Int) = (n : Int) := IntWalk.u64_in _ ⟨by omega, by omega⟩
set_option maxHeartbeats 1000000 in
theorem mul64_any (x y : Nat) (hx : x < 18446744073709551616) (hy : y < 18446744073709551616) (w : World) :
    Calls Try.prog 55 #[.int .u64 (x : Int), .int .u64 (y : Int)] w fun e w' => e = .returned (.tuple #[.int .u64 ((x * y / 18446744073709551616 : Nat) : Int), .int .u64 ((x * y % 18446744073709551616 : Nat) : Int)]) ∧ w' = w := by
  obtain ⟨b1, b2, b3, hhi⟩ := Lib.mul64_hi x y hx hy
  have k1 := Lib.half_mul_le (a := x / 4294967296) (b := y / 4294967296) (by omega) (by omega)
  have k2 := Lib.half_mul_le (a := x / 4294967296) (b := y % 4294967296) (by omega) (by omega)
  have k3 := Lib.half_mul_le (a := x % 4294967296) (b := y / 4294967296) (by omega) (by omega)
  have mx := mask64 x 32 hx (by decide) 4294967295 rfl
  have my := mask64 y 32 hy (by decide) 4294967295 rfl
  rw [show (2 : Nat) ^ 32 = 4294967296 from rfl] at mx my
  have dx : (x : Int) / 4294967296 = ((x / 4294967296 : Nat) : Int) := by omega
  have dy : (y : Int) / 4294967296 = ((y / 4294967296 : Nat) : Int) := by omega
  have hlo : IntKind.u64.wrap ((x : Int) * (y : Int)) = ((x * y % 18446744073709551616 : Nat) : Int) := by
    rw [← Int.natCast_mul, IntKind.wrap_u64]
    omega
  rw [← hhi]
  clear hhi hx hy
  generalize x * y % 18446744073709551616 = low at *
  generalize x % 4294967296 = x0 at *
  generalize x / 4294967296 = x1 at *
  generalize y % 4294967296 = y0 at *
  generalize y / 4294967296 = y1 at *
  have p1 : IntKind.u64.wrap ((x0 : Int) * (y0 : Int)) = ((x0 * y0 : Nat) : Int) := by rw [← Int.natCast_mul, wrap_nat _ b1]
  have p2 : IntKind.u64.wrap ((x1 : Int) * (y0 : Int)) = ((x1 * y0 : Nat) : Int) := by rw [← Int.natCast_mul, wrap_nat _ (by omega)]
  have p3 : IntKind.u64.wrap ((x0 : Int) * (y1 : Int)) = ((x0 * y1 : Nat) : Int) := by rw [← Int.natCast_mul, wrap_nat _ (by omega)]
  have p4 : IntKind.u64.wrap ((x1 : Int) * (y1 : Int)) = ((x1 * y1 : Nat) : Int) := by rw [← Int.natCast_mul, wrap_nat _ (by omega)]
  generalize x0 * y0 = q1 at *
  generalize x1 * y0 = q2 at *
  generalize x0 * y1 = q3 at *
  generalize x1 * y1 = q4 at *
  have d1 : (q1 : Int) / 4294967296 = ((q1 / 4294967296 : Nat) : Int) := by omega
  generalize q1 / 4294967296 = v1 at *
  have s1 : IntKind.u64.wrap ((q2 : Int) + (v1 : Int)) = ((q2 + v1 : Nat) : Int) := by rw [← Int.natCast_add, wrap_nat _ b2]
  have m1 := mask64 (q2 + v1) 32 b2 (by decide) 4294967295 rfl
  rw [show (2 : Nat) ^ 32 = 4294967296 from rfl] at m1
  generalize q2 + v1 = t at *
  have d2 : (t : Int) / 4294967296 = ((t / 4294967296 : Nat) : Int) := by omega
  have s2 : IntKind.u64.wrap (((t % 4294967296 : Nat) : Int) + (q3 : Int)) = ((t % 4294967296 + q3 : Nat) : Int) := by rw [← Int.natCast_add, wrap_nat _ b3]
  generalize hw1 : t % 4294967296 + q3 = w1 at *
  generalize ht0 : t % 4294967296 = t0 at *
  have d3 : (w1 : Int) / 4294967296 = ((w1 / 4294967296 : Nat) : Int) := by omega
  have s3 : IntKind.u64.wrap ((q4 : Int) + ((t / 4294967296 : Nat) : Int)) = ((q4 + t / 4294967296 : Nat) : Int) := by rw [← Int.natCast_add, wrap_nat _ (by omega)]
  have s4 : IntKind.u64.wrap (((q4 + t / 4294967296 : Nat) : Int) + ((w1 / 4294967296 : Nat) : Int)) = ((q4 + t / 4294967296 + w1 / 4294967296 : Nat) : Int) := by rw [← Int.natCast_add, wrap_nat _ (by omega)]
  generalize q4 + t / 4294967296 + w1 / 4294967296 = h2 at *
  generalize q4 + t / 4294967296 = h1 at *
  generalize t / 4294967296 = t1 at *
  generalize w1 / 4294967296 = v3 at *
  clear b1 b2 b3 k1 k2 k3 hw1 ht0
  go_enter Try.func55, Try.ntmps55
  go_wp2
  go_ret2
  exact ⟨rfl, rfl⟩

/-- x times y, with a and b added. -/
theorem product_le (x y a b : Nat) (hx : x < 18446744073709551616) (hy : y < 18446744073709551616) (ha : a < 18446744073709551616) (hb : b < 18446744073709551616) : x * y + a + b < 18446744073709551616 * 18446744073709551616 := by
  have h : x * y ≤ 18446744073709551615 * 18446744073709551615 := Nat.mul_le_mul (by omega) (by omega)
  omega
set_option maxHeartbeats 1000000 in
theorem product_any (x y a b : Nat) (hx : x < 18446744073709551616) (hy : y < 18446744073709551616) (ha : a < 18446744073709551616) (hb : b < 18446744073709551616) (w : World) :
    Calls Try.prog 51 #[.int .u64 (x : Int), .int .u64 (y : Int), .int .u64 (a : Int), .int .u64 (b : Int)] w fun e w' => e = .returned (.tuple #[.int .u64 (((x * y + a + b) % 18446744073709551616 : Nat) : Int), .int .u64 (((x * y + a + b) / 18446744073709551616 : Nat) : Int)]) ∧ w' = w := by
  have hall := product_le x y a b hx hy ha hb
  have hm := mul64_any x y hx hy
  generalize x * y = z at *
  obtain ⟨hi, hhi⟩ : ∃ hi, hi = z / 18446744073709551616 := ⟨_, rfl⟩
  obtain ⟨lo, hlo⟩ : ∃ lo, lo = z % 18446744073709551616 := ⟨_, rfl⟩
  rw [← hhi, ← hlo] at hm
  obtain ⟨l1, hl1⟩ : ∃ l1, l1 = (lo + a) % 18446744073709551616 := ⟨_, rfl⟩
  obtain ⟨c1, hc1⟩ : ∃ c1, c1 = (lo + a) / 18446744073709551616 := ⟨_, rfl⟩
  obtain ⟨l2, hl2⟩ : ∃ l2, l2 = (l1 + b) % 18446744073709551616 := ⟨_, rfl⟩
  obtain ⟨c2, hc2⟩ : ∃ c2, c2 = (l1 + b) / 18446744073709551616 := ⟨_, rfl⟩
  have r1 := add64_run lo a 0 (by omega)
  have r2 := add64_run l1 b 0 (by omega)
  rw [Nat.add_zero, ← hl1, ← hc1, show ((0 : Nat) : Int) = 0 from rfl] at r1
  rw [Nat.add_zero, ← hl2, ← hc2, show ((0 : Nat) : Int) = 0 from rfl] at r2
  have w1 : IntKind.u64.wrap ((hi : Int) + (c1 : Int)) = ((hi + c1 : Nat) : Int) := by rw [IntWalk.u64_in _ ⟨by omega, by omega⟩]; omega
  have w2 : IntKind.u64.wrap (((hi + c1 : Nat) : Int) + (c2 : Int)) = ((hi + c1 + c2 : Nat) : Int) := by rw [IntWalk.u64_in _ ⟨by omega, by omega⟩]; omega
  have e1 : (z + a + b) % 18446744073709551616 = l2 := by omega
  have e2 : (z + a + b) / 18446744073709551616 = hi + c1 + c2 := by omega
  rw [e1, e2]
  generalize hi + c1 + c2 = h2 at *
  generalize hi + c1 = h1 at *
  clear e1 e2 hhi hlo hl1 hc1 hl2 hc2 hall hx hy ha hb
  go_enter Try.func51, Try.ntmps51
  go_wp2_with (first
    | (go_at_call 55; refine (hm _).mono ?_; rintro e w' ⟨rfl, rfl⟩)
    | simp only [r1]
    | simp only [r2])
  go_ret2
  exact ⟨rfl, rfl⟩
end Go.Proofs.Ytnoppemclfnlcaa
