/- WireRecovers. -/
import Derived.Test.YtllppgfajbbbaaaMM2
import Derived.Laws.EntriesVeiled
namespace Go.Proofs.Ytllppgfajbbbaaa
open Go.RowKit Go.Deep
set_option linter.unusedSimpArgs false
set_option linter.unusedVariables false

theorem row_new (w : World) (v : Value) (t : TypeId) (n : Nat) (h : w.heap.size = n) : (w.alloc (.cells #[v] t)).rowIs n t 1 (fun _ => v) := by
  subst h
  exact World.rowIs_alloc w #[v] t _ (fun i hi => by
    have hi' : i < 1 := hi
    obtain rfl : i = 0 := by omega
    rfl)
def leftAt (pn pe sz k : Nat) (c : Int) (w1 w2 : World) : Prop := sz < w1.heap.size ∧ w2.rowIs pn 3 1 (fun _ => .int .i64 ((k + 1 : Nat) : Int)) ∧ w2.rowIs pe 37 1 (fun _ => .int .i64 c) ∧ Sam (fun b => b = pn ∨ b = pe) w1 w2
set_option maxHeartbeats 4000000 in
set_option maxRecDepth 20000 in
theorem recovers_in (k : Nat) (code : Int) (other : Bool) (w : World) (hk : k ≤ 50) (h1 : 1 ≤ code) (h2 : code ≤ 13) : Calls Try.prog 5 #[.int .i64 (k : Int), .int .i64 code, .bool other] w fun e w' => e = .returned (.bool true) ∧ Below w.heap.size w w' := by
  have hmf : ∀ (fn : Fn) (first cap : Array Value) (w : World), (Instr.makeFunc fn first cap).run Try.prog w = .ok (.func fn first cap) w := fun _ _ _ _ => rfl
  have hk0 : ¬ (k : Int) < 0 := by omega
  have hk1 : ¬ 50 < (k : Int) := by omega
  have hc0 : ¬ code < 1 := by omega
  have hc1 : ¬ 13 < code := by omega
  have HK := Lib.hid hk
  have H1 := Lib.hid h1
  clear hk h1 h2
  cases other
  · skip
    have hz : ∀ (x : World) (v : Value) (t : TypeId), (x.alloc (.cells #[v] t)).heap.size = x.heap.size + 1 := fun x v t => by simp
    have rk : ((((((w.alloc (.cells #[.int .i64 (k : Int)] 3)).alloc (.cells #[.int .i64 code] 3)).alloc (.cells #[.bool false] 4)).alloc (.cells #[.int .i64 0] 3)).alloc (.cells #[.func (.func 16) #[] #[.pointer (some ⟨w.heap.size + 1 + 1 + 1, 0, none⟩), .pointer (some ⟨w.heap.size + 1 + 1 + 1 + 1, 0, none⟩), .pointer (some ⟨w.heap.size + 1 + 1, 0, none⟩), .pointer (some ⟨w.heap.size + 1, 0, none⟩)]] 42)).alloc (.cells #[.int .i64 0] 37)).rowIs (w.heap.size) 3 1 (fun _ => .int .i64 (k : Int)) := (((((row_new w (.int .i64 (k : Int)) 3 (w.heap.size) (by simp only [hz])).alloc _).alloc _).alloc _).alloc _).alloc _
    have rc : ((((((w.alloc (.cells #[.int .i64 (k : Int)] 3)).alloc (.cells #[.int .i64 code] 3)).alloc (.cells #[.bool false] 4)).alloc (.cells #[.int .i64 0] 3)).alloc (.cells #[.func (.func 16) #[] #[.pointer (some ⟨w.heap.size + 1 + 1 + 1, 0, none⟩), .pointer (some ⟨w.heap.size + 1 + 1 + 1 + 1, 0, none⟩), .pointer (some ⟨w.heap.size + 1 + 1, 0, none⟩), .pointer (some ⟨w.heap.size + 1, 0, none⟩)]] 42)).alloc (.cells #[.int .i64 0] 37)).rowIs (w.heap.size + 1) 3 1 (fun _ => .int .i64 code) := ((((row_new (w.alloc (.cells #[.int .i64 (k : Int)] 3)) (.int .i64 code) 3 (w.heap.size + 1) (by simp only [hz])).alloc _).alloc _).alloc _).alloc _
    have ro : ((((((w.alloc (.cells #[.int .i64 (k : Int)] 3)).alloc (.cells #[.int .i64 code] 3)).alloc (.cells #[.bool false] 4)).alloc (.cells #[.int .i64 0] 3)).alloc (.cells #[.func (.func 16) #[] #[.pointer (some ⟨w.heap.size + 1 + 1 + 1, 0, none⟩), .pointer (some ⟨w.heap.size + 1 + 1 + 1 + 1, 0, none⟩), .pointer (some ⟨w.heap.size + 1 + 1, 0, none⟩), .pointer (some ⟨w.heap.size + 1, 0, none⟩)]] 42)).alloc (.cells #[.int .i64 0] 37)).rowIs (w.heap.size + 1 + 1) 4 1 (fun _ => .bool false) := (((row_new ((w.alloc (.cells #[.int .i64 (k : Int)] 3)).alloc (.cells #[.int .i64 code] 3)) (.bool false) 4 (w.heap.size + 1 + 1) (by simp only [hz])).alloc _).alloc _).alloc _
    have rn : ((((((w.alloc (.cells #[.int .i64 (k : Int)] 3)).alloc (.cells #[.int .i64 code] 3)).alloc (.cells #[.bool false] 4)).alloc (.cells #[.int .i64 0] 3)).alloc (.cells #[.func (.func 16) #[] #[.pointer (some ⟨w.heap.size + 1 + 1 + 1, 0, none⟩), .pointer (some ⟨w.heap.size + 1 + 1 + 1 + 1, 0, none⟩), .pointer (some ⟨w.heap.size + 1 + 1, 0, none⟩), .pointer (some ⟨w.heap.size + 1, 0, none⟩)]] 42)).alloc (.cells #[.int .i64 0] 37)).rowIs (w.heap.size + 1 + 1 + 1) 3 1 (fun _ => .int .i64 ((0 : Nat) : Int)) := ((row_new (((w.alloc (.cells #[.int .i64 (k : Int)] 3)).alloc (.cells #[.int .i64 code] 3)).alloc (.cells #[.bool false] 4)) (.int .i64 0) 3 (w.heap.size + 1 + 1 + 1) (by simp only [hz])).alloc _).alloc _
    have rd : ((((((w.alloc (.cells #[.int .i64 (k : Int)] 3)).alloc (.cells #[.int .i64 code] 3)).alloc (.cells #[.bool false] 4)).alloc (.cells #[.int .i64 0] 3)).alloc (.cells #[.func (.func 16) #[] #[.pointer (some ⟨w.heap.size + 1 + 1 + 1, 0, none⟩), .pointer (some ⟨w.heap.size + 1 + 1 + 1 + 1, 0, none⟩), .pointer (some ⟨w.heap.size + 1 + 1, 0, none⟩), .pointer (some ⟨w.heap.size + 1, 0, none⟩)]] 42)).alloc (.cells #[.int .i64 0] 37)).rowIs (w.heap.size + 1 + 1 + 1 + 1) 42 1 (fun _ => .func (.func 16) #[] #[.pointer (some ⟨w.heap.size + 1 + 1 + 1, 0, none⟩), .pointer (some ⟨w.heap.size + 1 + 1 + 1 + 1, 0, none⟩), .pointer (some ⟨w.heap.size + 1 + 1, 0, none⟩), .pointer (some ⟨w.heap.size + 1, 0, none⟩)]) := (row_new ((((w.alloc (.cells #[.int .i64 (k : Int)] 3)).alloc (.cells #[.int .i64 code] 3)).alloc (.cells #[.bool false] 4)).alloc (.cells #[.int .i64 0] 3)) (.func (.func 16) #[] #[.pointer (some ⟨w.heap.size + 1 + 1 + 1, 0, none⟩), .pointer (some ⟨w.heap.size + 1 + 1 + 1 + 1, 0, none⟩), .pointer (some ⟨w.heap.size + 1 + 1, 0, none⟩), .pointer (some ⟨w.heap.size + 1, 0, none⟩)]) 42 (w.heap.size + 1 + 1 + 1 + 1) (by simp only [hz])).alloc _
    have re : ((((((w.alloc (.cells #[.int .i64 (k : Int)] 3)).alloc (.cells #[.int .i64 code] 3)).alloc (.cells #[.bool false] 4)).alloc (.cells #[.int .i64 0] 3)).alloc (.cells #[.func (.func 16) #[] #[.pointer (some ⟨w.heap.size + 1 + 1 + 1, 0, none⟩), .pointer (some ⟨w.heap.size + 1 + 1 + 1 + 1, 0, none⟩), .pointer (some ⟨w.heap.size + 1 + 1, 0, none⟩), .pointer (some ⟨w.heap.size + 1, 0, none⟩)]] 42)).alloc (.cells #[.int .i64 0] 37)).rowIs (w.heap.size + 1 + 1 + 1 + 1 + 1) 37 1 (fun _ => .int .i64 0) := row_new (((((w.alloc (.cells #[.int .i64 (k : Int)] 3)).alloc (.cells #[.int .i64 code] 3)).alloc (.cells #[.bool false] 4)).alloc (.cells #[.int .i64 0] 3)).alloc (.cells #[.func (.func 16) #[] #[.pointer (some ⟨w.heap.size + 1 + 1 + 1, 0, none⟩), .pointer (some ⟨w.heap.size + 1 + 1 + 1 + 1, 0, none⟩), .pointer (some ⟨w.heap.size + 1 + 1, 0, none⟩), .pointer (some ⟨w.heap.size + 1, 0, none⟩)]] 42)) (.int .i64 0) 37 (w.heap.size + 1 + 1 + 1 + 1 + 1) (by simp only [hz])
    have hB : Below w.heap.size w ((((((w.alloc (.cells #[.int .i64 (k : Int)] 3)).alloc (.cells #[.int .i64 code] 3)).alloc (.cells #[.bool false] 4)).alloc (.cells #[.int .i64 0] 3)).alloc (.cells #[.func (.func 16) #[] #[.pointer (some ⟨w.heap.size + 1 + 1 + 1, 0, none⟩), .pointer (some ⟨w.heap.size + 1 + 1 + 1 + 1, 0, none⟩), .pointer (some ⟨w.heap.size + 1 + 1, 0, none⟩), .pointer (some ⟨w.heap.size + 1, 0, none⟩)]] 42)).alloc (.cells #[.int .i64 0] 37)) := ((((((Below.refl _ _).alloc (by (try simp only [hz]); omega) _).alloc (by (try simp only [hz]); omega) _).alloc (by (try simp only [hz]); omega) _).alloc (by (try simp only [hz]); omega) _).alloc (by (try simp only [hz]); omega) _).alloc (by (try simp only [hz]); omega) _
    have hsz : ((((((w.alloc (.cells #[.int .i64 (k : Int)] 3)).alloc (.cells #[.int .i64 code] 3)).alloc (.cells #[.bool false] 4)).alloc (.cells #[.int .i64 0] 3)).alloc (.cells #[.func (.func 16) #[] #[.pointer (some ⟨w.heap.size + 1 + 1 + 1, 0, none⟩), .pointer (some ⟨w.heap.size + 1 + 1 + 1 + 1, 0, none⟩), .pointer (some ⟨w.heap.size + 1 + 1, 0, none⟩), .pointer (some ⟨w.heap.size + 1, 0, none⟩)]] 42)).alloc (.cells #[.int .i64 0] 37)).heap.size = w.heap.size + 1 + 1 + 1 + 1 + 1 + 1 := by simp only [hz]
    go_enter Try.func5, Try.ntmps5
    go_wp2_with fail
    clear hz
    generalize hW : ((((((w.alloc (.cells #[.int .i64 (k : Int)] 3)).alloc (.cells #[.int .i64 code] 3)).alloc (.cells #[.bool false] 4)).alloc (.cells #[.int .i64 0] 3)).alloc (.cells #[.func (.func 16) #[] #[.pointer (some ⟨w.heap.size + 1 + 1 + 1, 0, none⟩), .pointer (some ⟨w.heap.size + 1 + 1 + 1 + 1, 0, none⟩), .pointer (some ⟨w.heap.size + 1 + 1, 0, none⟩), .pointer (some ⟨w.heap.size + 1, 0, none⟩)]] 42)).alloc (.cells #[.int .i64 0] 37)) = W at *
    have hnew : (W.alloc (.cells #[.int .i64 0] 3)).heap.size = W.heap.size + 1 := by simp
    have HM := mid_err (w.heap.size + 1 + 1 + 1) (w.heap.size + 1 + 1 + 1 + 1) (w.heap.size + 1 + 1) (w.heap.size + 1) (w.heap.size) (w.heap.size + 1 + 1 + 1 + 1 + 1) code (by omega) (by omega) (by omega) (by omega) k HK.out (W.alloc (.cells #[.int .i64 0] 3)) (rn.alloc _) ((rd.alloc _).cell (i := 0) (by decide)) ((ro.alloc _).cell (i := 0) (by decide)) ((rc.alloc _).cell (i := 0) (by decide)) ((rk.alloc _).cell (i := 0) (by decide)) (re.alloc _) (by have := H1.out; omega)
    refine (panics_ok 18 _ _ W Try.func18 (by kernel_rfl) (by kernel_rfl) (leftAt (w.heap.size + 1 + 1 + 1) (w.heap.size + 1 + 1 + 1 + 1 + 1) W.heap.size k code) (fun w1 w2 h => h.2.2.2.block _ h.1 (by omega)) (HM.mono fun e w2 h => ⟨h.1, by omega, h.2⟩)).mono ?_
    rintro e w3 ⟨rfl, w2, hl, g⟩
    obtain ⟨g1, g2, g3, g5⟩ := hl
    have g4 := g5.size
    have BW3 : Hid (Below w.heap.size w w3) := Lib.hid (((hB.alloc (by omega) _).trans (g5.below (fun b h => by rcases h with rfl | rfl <;> omega) (by omega))).grown g (by omega) (fun b hb => by have := Option.some.inj hb; omega))
    have xn := g2.of_block (g.block _ g2.lt (by intro e; have := Option.some.inj e; omega))
    have xe := g3.of_block (g.block _ g3.lt (by intro e; have := Option.some.inj e; omega))
    have xk := ((rk.alloc (.cells #[.int .i64 0] 3)).of_block (g5.block _ (by omega) (by omega))).of_block (g.block _ (by omega) (by intro e; have := Option.some.inj e; omega))
    have xc := ((rc.alloc (.cells #[.int .i64 0] 3)).of_block (g5.block _ (by omega) (by omega))).of_block (g.block _ (by omega) (by intro e; have := Option.some.inj e; omega))
    have xo := ((ro.alloc (.cells #[.int .i64 0] 3)).of_block (g5.block _ (by omega) (by omega))).of_block (g.block _ (by omega) (by intro e; have := Option.some.inj e; omega))
    replace xn := xn.cell (i := 0) (by decide)
    replace xe := xe.cell (i := 0) (by decide)
    replace xk := xk.cell (i := 0) (by decide)
    replace xc := xc.cell (i := 0) (by decide)
    replace xo := xo.cell (i := 0) (by decide)
    obtain ⟨k1, hk2⟩ := nat_var (k + 1)
    have hw1 : IntKind.i64.wrap ((k : Int) + 1) = (k1 : Int) := by rw [IntWalk.i64_in _ (by have := HK.out; omega)]; omega
    rw [← hk2] at xn
    clear g1 g2 g3 g4 g5 g rk rc ro rn rd re HM hW hnew hsz hk2 hB
    go_wp2_with (first
      | (have hgo := BW3; clear hgo
         go_at_call 8
         refine (awake14_any _).mono ?_
         rintro e w4 ⟨rfl, kk⟩
         have BW4 := BW3.out.trans (kk.mono BW3.out.size)
         clear BW3 kk))
    go_ret
    exact ⟨rfl, BW4⟩
  · skip
    have hz : ∀ (x : World) (v : Value) (t : TypeId), (x.alloc (.cells #[v] t)).heap.size = x.heap.size + 1 := fun x v t => by simp
    have rk : ((((((w.alloc (.cells #[.int .i64 (k : Int)] 3)).alloc (.cells #[.int .i64 code] 3)).alloc (.cells #[.bool true] 4)).alloc (.cells #[.int .i64 0] 3)).alloc (.cells #[.func (.func 16) #[] #[.pointer (some ⟨w.heap.size + 1 + 1 + 1, 0, none⟩), .pointer (some ⟨w.heap.size + 1 + 1 + 1 + 1, 0, none⟩), .pointer (some ⟨w.heap.size + 1 + 1, 0, none⟩), .pointer (some ⟨w.heap.size + 1, 0, none⟩)]] 42)).alloc (.cells #[.int .i64 0] 37)).rowIs (w.heap.size) 3 1 (fun _ => .int .i64 (k : Int)) := (((((row_new w (.int .i64 (k : Int)) 3 (w.heap.size) (by simp only [hz])).alloc _).alloc _).alloc _).alloc _).alloc _
    have rc : ((((((w.alloc (.cells #[.int .i64 (k : Int)] 3)).alloc (.cells #[.int .i64 code] 3)).alloc (.cells #[.bool true] 4)).alloc (.cells #[.int .i64 0] 3)).alloc (.cells #[.func (.func 16) #[] #[.pointer (some ⟨w.heap.size + 1 + 1 + 1, 0, none⟩), .pointer (some ⟨w.heap.size + 1 + 1 + 1 + 1, 0, none⟩), .pointer (some ⟨w.heap.size + 1 + 1, 0, none⟩), .pointer (some ⟨w.heap.size + 1, 0, none⟩)]] 42)).alloc (.cells #[.int .i64 0] 37)).rowIs (w.heap.size + 1) 3 1 (fun _ => .int .i64 code) := ((((row_new (w.alloc (.cells #[.int .i64 (k : Int)] 3)) (.int .i64 code) 3 (w.heap.size + 1) (by simp only [hz])).alloc _).alloc _).alloc _).alloc _
    have ro : ((((((w.alloc (.cells #[.int .i64 (k : Int)] 3)).alloc (.cells #[.int .i64 code] 3)).alloc (.cells #[.bool true] 4)).alloc (.cells #[.int .i64 0] 3)).alloc (.cells #[.func (.func 16) #[] #[.pointer (some ⟨w.heap.size + 1 + 1 + 1, 0, none⟩), .pointer (some ⟨w.heap.size + 1 + 1 + 1 + 1, 0, none⟩), .pointer (some ⟨w.heap.size + 1 + 1, 0, none⟩), .pointer (some ⟨w.heap.size + 1, 0, none⟩)]] 42)).alloc (.cells #[.int .i64 0] 37)).rowIs (w.heap.size + 1 + 1) 4 1 (fun _ => .bool true) := (((row_new ((w.alloc (.cells #[.int .i64 (k : Int)] 3)).alloc (.cells #[.int .i64 code] 3)) (.bool true) 4 (w.heap.size + 1 + 1) (by simp only [hz])).alloc _).alloc _).alloc _
    have rn : ((((((w.alloc (.cells #[.int .i64 (k : Int)] 3)).alloc (.cells #[.int .i64 code] 3)).alloc (.cells #[.bool true] 4)).alloc (.cells #[.int .i64 0] 3)).alloc (.cells #[.func (.func 16) #[] #[.pointer (some ⟨w.heap.size + 1 + 1 + 1, 0, none⟩), .pointer (some ⟨w.heap.size + 1 + 1 + 1 + 1, 0, none⟩), .pointer (some ⟨w.heap.size + 1 + 1, 0, none⟩), .pointer (some ⟨w.heap.size + 1, 0, none⟩)]] 42)).alloc (.cells #[.int .i64 0] 37)).rowIs (w.heap.size + 1 + 1 + 1) 3 1 (fun _ => .int .i64 ((0 : Nat) : Int)) := ((row_new (((w.alloc (.cells #[.int .i64 (k : Int)] 3)).alloc (.cells #[.int .i64 code] 3)).alloc (.cells #[.bool true] 4)) (.int .i64 0) 3 (w.heap.size + 1 + 1 + 1) (by simp only [hz])).alloc _).alloc _
    have rd : ((((((w.alloc (.cells #[.int .i64 (k : Int)] 3)).alloc (.cells #[.int .i64 code] 3)).alloc (.cells #[.bool true] 4)).alloc (.cells #[.int .i64 0] 3)).alloc (.cells #[.func (.func 16) #[] #[.pointer (some ⟨w.heap.size + 1 + 1 + 1, 0, none⟩), .pointer (some ⟨w.heap.size + 1 + 1 + 1 + 1, 0, none⟩), .pointer (some ⟨w.heap.size + 1 + 1, 0, none⟩), .pointer (some ⟨w.heap.size + 1, 0, none⟩)]] 42)).alloc (.cells #[.int .i64 0] 37)).rowIs (w.heap.size + 1 + 1 + 1 + 1) 42 1 (fun _ => .func (.func 16) #[] #[.pointer (some ⟨w.heap.size + 1 + 1 + 1, 0, none⟩), .pointer (some ⟨w.heap.size + 1 + 1 + 1 + 1, 0, none⟩), .pointer (some ⟨w.heap.size + 1 + 1, 0, none⟩), .pointer (some ⟨w.heap.size + 1, 0, none⟩)]) := (row_new ((((w.alloc (.cells #[.int .i64 (k : Int)] 3)).alloc (.cells #[.int .i64 code] 3)).alloc (.cells #[.bool true] 4)).alloc (.cells #[.int .i64 0] 3)) (.func (.func 16) #[] #[.pointer (some ⟨w.heap.size + 1 + 1 + 1, 0, none⟩), .pointer (some ⟨w.heap.size + 1 + 1 + 1 + 1, 0, none⟩), .pointer (some ⟨w.heap.size + 1 + 1, 0, none⟩), .pointer (some ⟨w.heap.size + 1, 0, none⟩)]) 42 (w.heap.size + 1 + 1 + 1 + 1) (by simp only [hz])).alloc _
    have re : ((((((w.alloc (.cells #[.int .i64 (k : Int)] 3)).alloc (.cells #[.int .i64 code] 3)).alloc (.cells #[.bool true] 4)).alloc (.cells #[.int .i64 0] 3)).alloc (.cells #[.func (.func 16) #[] #[.pointer (some ⟨w.heap.size + 1 + 1 + 1, 0, none⟩), .pointer (some ⟨w.heap.size + 1 + 1 + 1 + 1, 0, none⟩), .pointer (some ⟨w.heap.size + 1 + 1, 0, none⟩), .pointer (some ⟨w.heap.size + 1, 0, none⟩)]] 42)).alloc (.cells #[.int .i64 0] 37)).rowIs (w.heap.size + 1 + 1 + 1 + 1 + 1) 37 1 (fun _ => .int .i64 0) := row_new (((((w.alloc (.cells #[.int .i64 (k : Int)] 3)).alloc (.cells #[.int .i64 code] 3)).alloc (.cells #[.bool true] 4)).alloc (.cells #[.int .i64 0] 3)).alloc (.cells #[.func (.func 16) #[] #[.pointer (some ⟨w.heap.size + 1 + 1 + 1, 0, none⟩), .pointer (some ⟨w.heap.size + 1 + 1 + 1 + 1, 0, none⟩), .pointer (some ⟨w.heap.size + 1 + 1, 0, none⟩), .pointer (some ⟨w.heap.size + 1, 0, none⟩)]] 42)) (.int .i64 0) 37 (w.heap.size + 1 + 1 + 1 + 1 + 1) (by simp only [hz])
    have hB : Below w.heap.size w ((((((w.alloc (.cells #[.int .i64 (k : Int)] 3)).alloc (.cells #[.int .i64 code] 3)).alloc (.cells #[.bool true] 4)).alloc (.cells #[.int .i64 0] 3)).alloc (.cells #[.func (.func 16) #[] #[.pointer (some ⟨w.heap.size + 1 + 1 + 1, 0, none⟩), .pointer (some ⟨w.heap.size + 1 + 1 + 1 + 1, 0, none⟩), .pointer (some ⟨w.heap.size + 1 + 1, 0, none⟩), .pointer (some ⟨w.heap.size + 1, 0, none⟩)]] 42)).alloc (.cells #[.int .i64 0] 37)) := ((((((Below.refl _ _).alloc (by (try simp only [hz]); omega) _).alloc (by (try simp only [hz]); omega) _).alloc (by (try simp only [hz]); omega) _).alloc (by (try simp only [hz]); omega) _).alloc (by (try simp only [hz]); omega) _).alloc (by (try simp only [hz]); omega) _
    have hsz : ((((((w.alloc (.cells #[.int .i64 (k : Int)] 3)).alloc (.cells #[.int .i64 code] 3)).alloc (.cells #[.bool true] 4)).alloc (.cells #[.int .i64 0] 3)).alloc (.cells #[.func (.func 16) #[] #[.pointer (some ⟨w.heap.size + 1 + 1 + 1, 0, none⟩), .pointer (some ⟨w.heap.size + 1 + 1 + 1 + 1, 0, none⟩), .pointer (some ⟨w.heap.size + 1 + 1, 0, none⟩), .pointer (some ⟨w.heap.size + 1, 0, none⟩)]] 42)).alloc (.cells #[.int .i64 0] 37)).heap.size = w.heap.size + 1 + 1 + 1 + 1 + 1 + 1 := by simp only [hz]
    go_enter Try.func5, Try.ntmps5
    go_wp2_with fail
    clear hz
    generalize hW : ((((((w.alloc (.cells #[.int .i64 (k : Int)] 3)).alloc (.cells #[.int .i64 code] 3)).alloc (.cells #[.bool true] 4)).alloc (.cells #[.int .i64 0] 3)).alloc (.cells #[.func (.func 16) #[] #[.pointer (some ⟨w.heap.size + 1 + 1 + 1, 0, none⟩), .pointer (some ⟨w.heap.size + 1 + 1 + 1 + 1, 0, none⟩), .pointer (some ⟨w.heap.size + 1 + 1, 0, none⟩), .pointer (some ⟨w.heap.size + 1, 0, none⟩)]] 42)).alloc (.cells #[.int .i64 0] 37)) = W at *
    have hnew : (W.alloc (.cells #[.int .i64 0] 3)).heap.size = W.heap.size + 1 := by simp
    have HM := mid_str (w.heap.size + 1 + 1 + 1) (w.heap.size + 1 + 1 + 1 + 1) (w.heap.size + 1 + 1) (w.heap.size + 1) (w.heap.size) (w.heap.size + 1 + 1 + 1 + 1 + 1) code (by omega) (by omega) (by omega) (by omega) k HK.out (W.alloc (.cells #[.int .i64 0] 3)) (rn.alloc _) ((rd.alloc _).cell (i := 0) (by decide)) ((ro.alloc _).cell (i := 0) (by decide)) ((rc.alloc _).cell (i := 0) (by decide)) ((rk.alloc _).cell (i := 0) (by decide)) (re.alloc _)
    refine (panics_str 18 _ _ (.string ⟨#[111, 116, 104, 101, 114]⟩) _ rfl W Try.func18 (by kernel_rfl) (by kernel_rfl) (leftAt (w.heap.size + 1 + 1 + 1) (w.heap.size + 1 + 1 + 1 + 1 + 1) W.heap.size k 0) (fun w1 w2 h => h.2.2.2.block _ h.1 (by omega)) (HM.mono fun e w2 h => ⟨h.1, by omega, h.2⟩)).mono ?_
    rintro e w3 ⟨rfl, w2, hl, g⟩
    obtain ⟨g1, g2, g3, g5⟩ := hl
    have g4 := g5.size
    have BW3 : Hid (Below w.heap.size w w3) := Lib.hid (((hB.alloc (by omega) _).trans (g5.below (fun b h => by rcases h with rfl | rfl <;> omega) (by omega))).grown g (by omega) (fun b hb => by have := Option.some.inj hb; omega))
    have xn := g2.of_block (g.block _ g2.lt (by intro e; have := Option.some.inj e; omega))
    have xe := g3.of_block (g.block _ g3.lt (by intro e; have := Option.some.inj e; omega))
    have xk := ((rk.alloc (.cells #[.int .i64 0] 3)).of_block (g5.block _ (by omega) (by omega))).of_block (g.block _ (by omega) (by intro e; have := Option.some.inj e; omega))
    have xc := ((rc.alloc (.cells #[.int .i64 0] 3)).of_block (g5.block _ (by omega) (by omega))).of_block (g.block _ (by omega) (by intro e; have := Option.some.inj e; omega))
    have xo := ((ro.alloc (.cells #[.int .i64 0] 3)).of_block (g5.block _ (by omega) (by omega))).of_block (g.block _ (by omega) (by intro e; have := Option.some.inj e; omega))
    replace xn := xn.cell (i := 0) (by decide)
    replace xe := xe.cell (i := 0) (by decide)
    replace xk := xk.cell (i := 0) (by decide)
    replace xc := xc.cell (i := 0) (by decide)
    replace xo := xo.cell (i := 0) (by decide)
    obtain ⟨k1, hk2⟩ := nat_var (k + 1)
    have hw1 : IntKind.i64.wrap ((k : Int) + 1) = (k1 : Int) := by rw [IntWalk.i64_in _ (by have := HK.out; omega)]; omega
    rw [← hk2] at xn
    clear g1 g2 g3 g4 g5 g rk rc ro rn rd re HM hW hnew hsz hk2 hB
    go_wp2_with (first
      | (have hgo := BW3; clear hgo
         go_at_call 8
         refine (awake14_any _).mono ?_
         rintro e w4 ⟨rfl, kk⟩
         have BW4 := BW3.out.trans (kk.mono BW3.out.size)
         clear BW3 kk))
    go_ret
    exact ⟨rfl, BW4⟩
set_option maxHeartbeats 4000000 in
set_option maxRecDepth 20000 in
theorem recovers_o1 (d code : Int) (other : Bool) (w : World) (h1 : d < 0) : Calls Try.prog 5 #[.int .i64 d, .int .i64 code, .bool other] w fun e w' => e = .returned (.bool true) ∧ Below w.heap.size w w' := by
  have Bw0 := Below.refl w.heap.size w
  have B1 : Hid (∀ b : Bool, Below w.heap.size w (((w.alloc (.cells #[.int .i64 d] 3)).alloc (.cells #[.int .i64 code] 3)).alloc (.cells #[.bool b] 4))) := Lib.hid fun b => (((Bw0).alloc (Nat.le_refl _) _).alloc (by simp) _).alloc (by simp; omega) _
  go_enter Try.func5, Try.ntmps5
  go_wp2_with (first
    | (have hgo := B1; clear hgo
       go_at_call 8
       refine (awake14_any _).mono ?_
       rintro e w4 ⟨rfl, kk⟩
       have BW4 := (B1.out other).trans (kk.mono (B1.out other).size)
       clear B1 kk))
  go_ret
  exact ⟨rfl, BW4⟩
set_option maxHeartbeats 4000000 in
set_option maxRecDepth 20000 in
theorem recovers_o2 (d code : Int) (other : Bool) (w : World) (h1 : ¬ d < 0) (h2 : 50 < d) : Calls Try.prog 5 #[.int .i64 d, .int .i64 code, .bool other] w fun e w' => e = .returned (.bool true) ∧ Below w.heap.size w w' := by
  have Bw0 := Below.refl w.heap.size w
  have B1 : Hid (∀ b : Bool, Below w.heap.size w (((w.alloc (.cells #[.int .i64 d] 3)).alloc (.cells #[.int .i64 code] 3)).alloc (.cells #[.bool b] 4))) := Lib.hid fun b => (((Bw0).alloc (Nat.le_refl _) _).alloc (by simp) _).alloc (by simp; omega) _
  go_enter Try.func5, Try.ntmps5
  go_wp2_with (first
    | (have hgo := B1; clear hgo
       go_at_call 8
       refine (awake14_any _).mono ?_
       rintro e w4 ⟨rfl, kk⟩
       have BW4 := (B1.out other).trans (kk.mono (B1.out other).size)
       clear B1 kk))
  go_ret
  exact ⟨rfl, BW4⟩
set_option maxHeartbeats 4000000 in
set_option maxRecDepth 20000 in
theorem recovers_o3 (d code : Int) (other : Bool) (w : World) (h1 : ¬ d < 0) (h2 : ¬ 50 < d) (h3 : code < 1) : Calls Try.prog 5 #[.int .i64 d, .int .i64 code, .bool other] w fun e w' => e = .returned (.bool true) ∧ Below w.heap.size w w' := by
  have Bw0 := Below.refl w.heap.size w
  have B1 : Hid (∀ b : Bool, Below w.heap.size w (((w.alloc (.cells #[.int .i64 d] 3)).alloc (.cells #[.int .i64 code] 3)).alloc (.cells #[.bool b] 4))) := Lib.hid fun b => (((Bw0).alloc (Nat.le_refl _) _).alloc (by simp) _).alloc (by simp; omega) _
  go_enter Try.func5, Try.ntmps5
  go_wp2_with (first
    | (have hgo := B1; clear hgo
       go_at_call 8
       refine (awake14_any _).mono ?_
       rintro e w4 ⟨rfl, kk⟩
       have BW4 := (B1.out other).trans (kk.mono (B1.out other).size)
       clear B1 kk))
  go_ret
  exact ⟨rfl, BW4⟩
set_option maxHeartbeats 4000000 in
set_option maxRecDepth 20000 in
theorem recovers_o4 (d code : Int) (other : Bool) (w : World) (h1 : ¬ d < 0) (h2 : ¬ 50 < d) (h3 : ¬ code < 1) (h4 : 13 < code) : Calls Try.prog 5 #[.int .i64 d, .int .i64 code, .bool other] w fun e w' => e = .returned (.bool true) ∧ Below w.heap.size w w' := by
  have Bw0 := Below.refl w.heap.size w
  have B1 : Hid (∀ b : Bool, Below w.heap.size w (((w.alloc (.cells #[.int .i64 d] 3)).alloc (.cells #[.int .i64 code] 3)).alloc (.cells #[.bool b] 4))) := Lib.hid fun b => (((Bw0).alloc (Nat.le_refl _) _).alloc (by simp) _).alloc (by simp; omega) _
  go_enter Try.func5, Try.ntmps5
  go_wp2_with (first
    | (have hgo := B1; clear hgo
       go_at_call 8
       refine (awake14_any _).mono ?_
       rintro e w4 ⟨rfl, kk⟩
       have BW4 := (B1.out other).trans (kk.mono (B1.out other).size)
       clear B1 kk))
  go_ret
  exact ⟨rfl, BW4⟩
theorem law_wireRecovers (w : World) (d : Int) (_ : (Lit.int .i64 d).wf = true) (code : Int) (_ : (Lit.int .i64 code).wf = true) (other : Bool) : Calls Try.prog 5 #[.int .i64 d, .int .i64 code, .bool other] w fun e w' => e = .returned (.bool true) ∧ Below w.heap.size w w' := by
  by_cases h1 : d < 0
  · exact recovers_o1 d code other w h1
  by_cases h2 : 50 < d
  · exact recovers_o2 d code other w h1 h2
  by_cases h3 : code < 1
  · exact recovers_o3 d code other w h1 h2 h3
  by_cases h4 : 13 < code
  · exact recovers_o4 d code other w h1 h2 h3 h4
  obtain ⟨k, rfl⟩ : ∃ k : Nat, d = (k : Int) := ⟨d.toNat, by omega⟩
  exact recovers_in k code other w (by omega) (by omega) (by omega)
end Go.Proofs.Ytllppgfajbbbaaa
