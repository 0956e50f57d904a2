/- Texts joined: what they are for stands ahead of each. -/
import Derived.Test.YtnpifjimmeehdaaMM1
import Derived.ProofKit
import Derived.OpenShut
import Derived.ChangeOld
import Derived.Deep.Matrix
set_option linter.unusedSimpArgs false
set_option linter.unusedVariables false

/- A region that draws, of readers and of calls that leave the world as it is, then stores into one row: its readers are read in the one world that stands as long as the first store has not come up. -/
set_option linter.unusedSimpArgs false
set_option linter.unusedVariables false
namespace Go.Proofs.Ytnpifjimmeehdaa
open Go.RowKit Go.Deep
section
variable {P : Program} {ops : Array Oper} {Q : Exit → Act → World → Prop} {r : List (Nat × Option (List Nat))} {a : Act} {w : World} {o : Oper} {i : Nat}

/-- What holds ahead of a writer: the world is as it was, but for the writer L. -/
def EqU (L : Nat) (w : World) : Nat → World → Prop := fun c w' => c ≠ L → w' = w
def Any : Nat → World → Prop := fun _ _ => True
theorem le_start {id : Nat} (r : List (Nat × Option (List Nat))) (L : Nat) (hm : P.follows .mixedOrders = true) (hs : Region.noSelect ops = true) (hl : r.length ≤ ops.size)
    (hk : linsOk ops r (Array.replicate ops.size false) = true) (hQ : ∀ d v c a w, Q (.panic c) (Act.put a d v) w → Q (.panic c) a w)
    (h : LinS P ops Q r (EqU L w.drew) a w.drew) : (Code.region id ops true).wp P Q a w :=
  wp_region_lins r (EqU L w.drew) hm hs hl hk hQ (fun _ _ _ => rfl) h
theorem le_rd {c L : Nat} {C : List Nat} {op : Op} {t : TypeId} (d : Nat) (v : Value) (hc : Nat.beq c L = false) (ho : ops[i]? = some o) (hd : o.dst = some d) (hop : o.op = op) (ht : o.type = t) (hw : Region.wanted o (yielded ops a.tmps) = true)
    (hy : (execOp a.eval (mkOp op t)).run P w = .ok (.value v) w) (h : LinS P ops Q r (EqU L w) (a.put (some d) v) w) : LinS P ops Q ((i, some (c :: C)) :: r) (EqU L w) a w :=
  lins_read d op t v ho hd hop ht hw (fun w' hw' => by rw [hw' c List.mem_cons_self (Nat.ne_of_beq_eq_false hc)]; exact hy) h
/-- What no world matters to. -/
theorem le_rdA {C : List Nat} {R : Nat → World → Prop} {op : Op} {t : TypeId} (d : Nat) (v : Value) (ho : ops[i]? = some o) (hd : o.dst = some d) (hop : o.op = op) (ht : o.type = t) (hw : Region.wanted o (yielded ops a.tmps) = true)
    (hy : ∀ w, (execOp a.eval (mkOp op t)).run P w = .ok (.value v) w) (h : LinS P ops Q r R (a.put (some d) v) w) : LinS P ops Q ((i, some C) :: r) R a w :=
  lins_read d op t v ho hd hop ht hw (fun w' _ => hy w') h
theorem le_call {L : Nat} {fn : Func} {f : Nat} {xs : Array Operand} {ts : Array TypeId} {args : Array Value} {v : Value} (d : Nat) (hcon : ∀ w, Calls P f args w fun e w' => e = .returned v ∧ w' = w)
    (ho : ops[i]? = some o) (hd : o.dst = some d) (hop : o.op = .call { callee := .value (.func f), args := xs, argTypes := ts })
    (hw : Region.wanted o (yielded ops a.tmps) = true) (hf : P.funcs[f]? = some fn) (hn : (fn.name == "runtime.NumGoroutine") = false) (hb : fn.body.isNone = false) (hargs : xs.map a.eval = args)
    (h : LinS P ops Q r (EqU L w) (a.put (some d) v) w) : LinS P ops Q ((i, none) :: r) (EqU L w) a w :=
  lins_fn (some d) f xs ts args (hcon w) ho hd hop hw hf hn hb hargs fun e w' hT => by
    obtain ⟨rfl, rfl⟩ := hT
    exact ⟨v, rfl, EqU L w', fun c _ => ⟨fun _ => rfl, fun _ h => h⟩, h⟩
end
section
variable {ops : Array Oper} {Q : Exit → Act → World → Prop} {r : List (Nat × Option (List Nat))} {a : Act} {w : World} {o : Oper} {i : Nat}
/-- A store of a number into a row of numbers of 16 digits: behind it only what no world matters to is read. -/
theorem le_store {L b j z : Nat} {t ty : TypeId} {f : Nat → Nat} {x y : Operand} (g : Nat → Nat) (hL : (writers r).all (fun c => c == L) = true) (ho : ops[i]? = some o) (hd : o.dst = none) (hop : o.op = .store 24 x y) (ht : o.type = t)
    (hw : Region.wanted o (yielded ops a.tmps) = true) (hr : w.rowIs b ty 256 (pyF f)) (hj : j < 256) (hx : a.eval x = .pointer (some ⟨b, j, none⟩)) (hy : a.eval y = .int .u16 (z : Int)) (hg : ∀ k, k < 256 → g k = if k = j then z else f k)
    (h : ∀ w', w'.rowIs b ty 256 (pyF g) → w.grownBy w' (some b) → LinS Try.prog ops Q r Any a w') : LinS Try.prog ops Q ((i, none) :: r) (EqU L w) a w :=
  lins_store (.store 24 x y) t _ ho hd hop ht hw (exec_store_cell a.eval 24 x y t hr hx hy (by kernel_rfl) rfl rfl hj) Any
    (fun c hc => ⟨trivial, fun _ _ hne => absurd (by simpa using List.all_eq_true.1 hL c hc) hne⟩) (h _ (pyF_set hr j z hg) (grownBy_set _ _ _ _))
theorem le_storeA {b j z : Nat} {t ty : TypeId} {f : Nat → Nat} {x y : Operand} (g : Nat → Nat) (ho : ops[i]? = some o) (hd : o.dst = none) (hop : o.op = .store 24 x y) (ht : o.type = t)
    (hw : Region.wanted o (yielded ops a.tmps) = true) (hr : w.rowIs b ty 256 (pyF f)) (hj : j < 256) (hx : a.eval x = .pointer (some ⟨b, j, none⟩)) (hy : a.eval y = .int .u16 (z : Int)) (hg : ∀ k, k < 256 → g k = if k = j then z else f k)
    (h : ∀ w', w'.rowIs b ty 256 (pyF g) → w.grownBy w' (some b) → LinS Try.prog ops Q r Any a w') : LinS Try.prog ops Q ((i, none) :: r) Any a w :=
  lins_store (.store 24 x y) t _ ho hd hop ht hw (exec_store_cell a.eval 24 x y t hr hx hy (by kernel_rfl) rfl rfl hj) Any
    (fun c hc => ⟨trivial, fun _ h => h⟩) (h _ (pyF_set hr j z hg) (grownBy_set _ _ _ _))
theorem le_end {R : Nat → World → Prop} (h : Q .normal a w) : LinS Try.prog ops Q [] R a w := h
theorem x_nil {ρ : Operand → Value} {x : Operand} {t : TypeId} {ad : Addr} (h : ρ x = .pointer (some ad)) (w : World) : (execOp ρ (mkOp (.nilCheck x) t)).run Try.prog w = .ok (.value (.pointer (some ad))) w := by
  simp only [execOp, mkOp, h]
  go_simp
theorem x_ia {ρ : Operand → Value} {x y : Operand} {t : TypeId} {b i : Nat} (hx : ρ x = .pointer (some ⟨b, 0, none⟩)) (hy : ρ y = .int .i64 (i : Int)) (hi : i < 256) (w : World) :
    (execOp ρ (mkOp (.indexAddr 26 x y) t)).run Try.prog w = .ok (.value (.pointer (some ⟨b, i, none⟩))) w := by
  have h1 : 0 ≤ (i : Int) ∧ (i : Int) < 256 := by omega
  simp only [execOp, mkOp, hx, hy]
  go_simp
theorem x_add {ρ : Operand → Value} {x y : Operand} {t : TypeId} {i j k : Nat} (hx : ρ x = .int .i64 (i : Int)) (hy : ρ y = .int .i64 (j : Int)) (hk : IntKind.i64.wrap ((i : Int) + (j : Int)) = (k : Int)) (w : World) :
    (execOp ρ (mkOp (.binOp .add 3 x y 3) t)).run Try.prog w = .ok (.value (.int .i64 (k : Int))) w := by
  simp only [execOp, mkOp, hx, hy]
  go_simp
theorem x_ld {ρ : Operand → Value} {x : Operand} {t ty : TypeId} {b j z : Nat} {f : Nat → Nat} {w : World} (hx : ρ x = .pointer (some ⟨b, j, none⟩)) (hr : w.rowIs b ty 256 (pyF f)) (hj : j < 256) (hz : f j = z) :
    (execOp ρ (mkOp (.load 24 x) t)).run Try.prog w = .ok (.value (.int .u16 (z : Int))) w := exec_load_cell ρ 24 x t hx (by kernel_rfl) (pyF_cell hr j hj hz)
end
end Go.Proofs.Ytnpifjimmeehdaa

/- The document's polynomials: the transform. -/
namespace Go.Proofs.Ytnpifjimmeehdaa
open Go.RowKit Go.Deep
set_option linter.unusedSimpArgs false
set_option linter.unusedVariables false

def Zv (k : Nat) : Nat := 17 ^ rev7 k % 3329
/-- A layer, in numbers. -/
def layV (n : Nat) (F : Nat → Nat) (i : Nat) : Nat :=
  if i % (2 * n) < n then (F i % 3329 + Zv (128 / n + i / (2 * n)) * F (i + n) % 3329) % 3329 else (F (i - n) % 3329 + 3329 - Zv (128 / n + i / (2 * n)) * F i % 3329) % 3329
theorem layV_lo (n s r : Nat) (hr : r < n) (F : Nat → Nat) : layV n F (s * (2 * n) + r) = (F (s * (2 * n) + r) % 3329 + Zv (128 / n + s) * F (s * (2 * n) + r + n) % 3329) % 3329 := by
  have d1 : (s * (2 * n) + r) % (2 * n) = r := by rw [Nat.mul_add_mod_self_right, Nat.mod_eq_of_lt (by omega)]
  have q1 : (s * (2 * n) + r) / (2 * n) = s := by rw [Nat.mul_comm, Nat.mul_add_div (by omega), Nat.div_eq_of_lt (by omega)]; omega
  rw [layV, d1, q1, if_pos hr]
theorem layV_hi (n s r : Nat) (hr : r < n) (F : Nat → Nat) : layV n F (s * (2 * n) + r + n) = (F (s * (2 * n) + r) % 3329 + 3329 - Zv (128 / n + s) * F (s * (2 * n) + r + n) % 3329) % 3329 := by
  have d2 : (s * (2 * n) + r + n) % (2 * n) = r + n := by rw [Nat.add_assoc, Nat.mul_add_mod_self_right, Nat.mod_eq_of_lt (by omega)]
  have q2 : (s * (2 * n) + r + n) / (2 * n) = s := by rw [Nat.add_assoc, Nat.mul_comm, Nat.mul_add_div (by omega), Nat.div_eq_of_lt (by omega)]; omega
  rw [layV, d2, q2, if_neg (by omega), Nat.add_sub_cancel]
theorem layV_lt (n : Nat) (F : Nat → Nat) (i : Nat) : layV n F i < 3329 := by
  unfold layV
  split <;> exact Nat.mod_lt _ (by decide)
theorem layV_rq (n : Nat) (F : Nat → Nat) (i : Nat) : rq (layV n F i) = lay n (fun i => rq (F i)) i := by
  unfold layV lay Zt
  have e : ∀ k, qpw 17 (rev7 k) = rq (Zv k) := fun k => by
    rw [show (17 : Rq) = rq 17 from rfl, qpw_val]
    exact (rq_mod _).symm
  by_cases h : i % (2 * n) < n
  · rw [if_pos h, if_pos h, rq_mod, rq_add, rq_mod, rq_mod, rq_mul, e]
  · rw [if_neg h, if_neg h, rq_mod, Nat.add_sub_assoc (Nat.le_of_lt (Nat.mod_lt _ (by decide))), rq_sub _ _ _ (Nat.le_of_lt (Nat.mod_lt _ (by decide))) (by decide), rq_mod, rq_mod, rq_mul, e]
/-- As many layers. -/
def stg (f : Nat → Nat) : Nat → Nat → Nat
  | 0 => f
  | m + 1 => layV (128 / 2 ^ m) (stg f m)
def nttN (f : Nat → Nat) : Nat → Nat := stg f 7
theorem stg_lt {f : Nat → Nat} (hf : ∀ i, f i < 65536) : ∀ m i, stg f m i < 65536
  | 0, i => hf i
  | m + 1, i => Nat.lt_trans (layV_lt _ _ i) (by decide)
theorem nttN_lt (f : Nat → Nat) (i : Nat) : nttN f i < 3329 := layV_lt _ _ i
theorem nttN_rq (f : Nat → Nat) : (fun i => rq (nttN f i)) = nttR (fun i => rq (f i)) := by
  have e : ∀ n (F : Nat → Nat), (fun i => rq (layV n F i)) = lay n (fun i => rq (F i)) := fun n F => funext fun i => layV_rq n F i
  show (fun i => rq (layV 2 (layV 4 (layV 8 (layV 16 (layV 32 (layV 64 (layV 128 f)))))) i)) = _
  rw [e, e, e, e, e, e, e]
  rfl
/-- Some places of the one, the others of the other. -/
def mix (F G : Nat → Nat) (n B r i : Nat) : Nat := if i < B + r ∨ (B + n ≤ i ∧ i < B + n + r) then G i else F i
theorem mix_yes {F G : Nat → Nat} {n B r i : Nat} (h : i < B + r ∨ (B + n ≤ i ∧ i < B + n + r)) : mix F G n B r i = G i := if_pos h
theorem mix_no {F G : Nat → Nat} {n B r i : Nat} (h : ¬ (i < B + r ∨ (B + n ≤ i ∧ i < B + n + r))) : mix F G n B r i = F i := if_neg h
theorem two_step (n : Nat) (m M : Nat) (hM : M = 2 ^ m) (h : M * n = 128) (h2 : 2 ≤ n) : m < 7 ∧ n = 2 * (n / 2) ∧ M ≤ 64 ∧ 1 ≤ M ∧ n ≤ 128 := by
  have hm : m < 7 := by
    rcases Nat.lt_or_ge m 7 with h7 | h7
    · exact h7
    · have h3 : 2 ^ 7 ≤ 2 ^ m := Nat.pow_le_pow_right (by decide) h7
      rw [← hM] at h3
      have h4 : 2 ^ 7 * 2 ≤ M * n := Nat.mul_le_mul h3 h2
      omega
  rcases (show m = 0 ∨ m = 1 ∨ m = 2 ∨ m = 3 ∨ m = 4 ∨ m = 5 ∨ m = 6 by omega) with rfl | rfl | rfl | rfl | rfl | rfl | rfl <;> (simp only [Nat.reducePow] at hM; subst hM; omega)
theorem two_end (n m M : Nat) (hM : M = 2 ^ m) (hm : m ≤ 7) (h : M * n = 128) (h2 : ¬ 2 ≤ n) : m = 7 := by
  rcases (show m = 0 ∨ m = 1 ∨ m = 2 ∨ m = 3 ∨ m = 4 ∨ m = 5 ∨ m = 6 ∨ m = 7 by omega) with rfl | rfl | rfl | rfl | rfl | rfl | rfl | rfl <;> (simp only [Nat.reducePow] at hM; subst hM; omega)
theorem cut_lt {s M n : Nat} (h : M * n = 128) (hs : s < M) : s * (2 * n) + 2 * n ≤ 256 := by
  have h1 : (s + 1) * (2 * n) ≤ M * (2 * n) := Nat.mul_le_mul_right _ hs
  have h2 : M * (2 * n) = 256 := by rw [Nat.mul_left_comm, h]
  rw [Nat.add_mul, Nat.one_mul, h2] at h1
  exact h1
theorem cut_ge {s M n B : Nat} (h : M * n = 128) (hB : B = s * (2 * n)) (hs : s ≤ M) (h2 : ¬ B < 256) : s = M ∧ B = 256 := by
  rcases Nat.lt_or_ge s M with h3 | h3
  · have h5 : 0 < n := by
      rcases Nat.eq_zero_or_pos n with rfl | h6
      · omega
      · exact h6
    have := cut_lt h h3
    omega
  · obtain rfl : s = M := by omega
    rw [Nat.mul_left_comm, h] at hB
    exact ⟨rfl, hB⟩
set_option maxHeartbeats 4000000 in
set_option maxRecDepth 20000 in
theorem refNTT_any (f : Nat → Nat) (w : World) (hf : ∀ i, f i < 65536) : Calls Try.prog 19 #[.agg (arrOf 256 (pyF f))] w fun e w' => e = .returned (.agg (arrOf 256 (pyF (nttN f)))) ∧ Below w.heap.size w w' := by
  have Bw0 := Below.refl w.heap.size w
  have HGS : Hid (∀ wq : World, Below w.heap.size w wq → w.heap.size ≤ wq.heap.size) := Lib.hid fun wq h => h.size
  have Hf := Lib.hid (stg_lt hf)
  clear hf
  go_enter Try.func19, Try.ntmps19
  go_wp2_with (first
    | (have hgo := Bw0; clear hgo
       refine wpList_box_row rfl 27 (.tmp 0) rfl 256 (pyF f) rfl ?_
       intro b_t1 w1 lk r_t1 kk
       have l_t1 := Nat.le_trans (HGS.out _ Bw0) lk
       have Bw1 := Bw0.trans (kk.mono (HGS.out _ Bw0))
       clear Bw0 kk lk)
    | (have hgo := Bw1; clear hgo
       refine wpList_alloc_row rfl 27 rfl 256 (pyF fun _ => 0) zeroPy ?_
       intro b_t2 w2 lk r_t2 kk
       have n_t1_t2 : b_t1 ≠ b_t2 := Nat.ne_of_lt (Nat.lt_of_lt_of_le (World.rowIs.lt r_t1) lk)
       have l_t2 := Nat.le_trans (HGS.out _ Bw1) lk
       replace r_t1 := World.rowIs.of_block r_t1 (kk.block _ (World.rowIs.lt r_t1))
       have Bw2 := Bw1.trans (kk.mono (HGS.out _ Bw1))
       clear Bw1 kk lk))
  go_loopw [3, 4] (fun kv nv wr => ∃ m M n : Nat, m ≤ 7 ∧ Hid (M = 2 ^ m) ∧ Hid (M * n = 128) ∧ kv = .int .i64 (M : Int) ∧ nv = .int .i64 (n : Int) ∧ wr.rowIs b_t1 27 256 (pyF (stg f m)) ∧ wr.rowIs b_t2 27 256 (pyF fun _ => 0) ∧ Below w.heap.size w wr) (fun _ nv _ => (intOf nv).toNat)
  case atStart => exact ⟨0, 1, 128, Nat.zero_le _, Lib.hid rfl, Lib.hid rfl, rfl, rfl, r_t1, r_t2, Bw2⟩
  case round =>
    clear r_t1 r_t2 Bw2
    obtain ⟨m, M, n, hm, HM, HMN, rfl, rfl, r_t1, r_t2, Bw⟩ := hrel
    by_cases h2 : 2 ≤ n
    · have h2I : (2 : Int) ≤ (n : Int) := by omega
      obtain ⟨hm7, hev, hM64, hM1, hn128⟩ := two_step n m M HM.out HMN.out h2
      obtain ⟨G, hG⟩ : ∃ G, G = stg f (m + 1) := ⟨_, rfl⟩
      obtain ⟨Fm, hF⟩ : ∃ F, F = stg f m := ⟨_, rfl⟩
      have HG := Lib.hid hG
      have HFm := Lib.hid hF
      have HFl : Hid (∀ i, Fm i < 65536) := Lib.hid fun i => by rw [hF]; exact Hf.out m i
      have hdv : 128 / n = M := Nat.div_eq_of_eq_mul_left (by omega) HMN.out.symm
      have HLO : Hid (∀ s r, r < n → G (s * (2 * n) + r) = (Fm (s * (2 * n) + r) % 3329 + Zv (M + s) * Fm (s * (2 * n) + r + n) % 3329) % 3329) := Lib.hid fun s r hr => by
        rw [hG, hF]
        show layV (128 / 2 ^ m) (stg f m) _ = _
        rw [← HM.out, show 128 / M = n from Nat.div_eq_of_eq_mul_left (by omega) (by rw [Nat.mul_comm]; exact HMN.out.symm), layV_lo n s r hr, hdv]
      have HHI : Hid (∀ s r, r < n → G (s * (2 * n) + r + n) = (Fm (s * (2 * n) + r) % 3329 + 3329 - Zv (M + s) * Fm (s * (2 * n) + r + n) % 3329) % 3329) := Lib.hid fun s r hr => by
        rw [hG, hF]
        show layV (128 / 2 ^ m) (stg f m) _ = _
        rw [← HM.out, show 128 / M = n from Nat.div_eq_of_eq_mul_left (by omega) (by rw [Nat.mul_comm]; exact HMN.out.symm), layV_hi n s r hr, hdv]
      rw [← hF] at r_t1
      have r_0 : wr.rowIs b_t1 27 256 (pyF (mix Fm G n 0 0)) := pyF_congr r_t1 fun k _ => (mix_no (by omega)).symm
      obtain ⟨nn, hnn⟩ := nat_var (2 * n)
      have hwnn : IntKind.i64.wrap (2 * (n : Int)) = (nn : Int) := by rw [IntWalk.i64_in _ (by omega)]; omega
      have HNN := Lib.hid hnn
      have HEV := Lib.hid hev
      have HM7 := Lib.hid hm7
      have hnq : IntKind.i64.wrap ((n : Int).tdiv 2) = ((n / 2 : Nat) : Int) := by rw [Int.tdiv_eq_ediv_of_nonneg (by omega), IntWalk.i64_in _ (by omega)]; omega
      have hnq2 : IntKind.i64.wrap ((n : Int) / 2) = ((n / 2 : Nat) : Int) := by rw [IntWalk.i64_in _ (by omega)]; omega
      obtain ⟨n', hn'⟩ := nat_var (n / 2)
      rw [← hn'] at hnq hnq2
      have HN2 := Lib.hid hn'
      clear hG hF hdv r_t1 hev hm7 hn' hnn
      go_wp2
      go_loopw [3, 5] (fun kv sv wr => ∃ s K B : Nat, s ≤ M ∧ Hid (K = M + s) ∧ Hid (B = s * (2 * n)) ∧ kv = .int .i64 (K : Int) ∧ sv = .int .i64 (B : Int) ∧ wr.rowIs b_t1 27 256 (pyF (mix Fm G n B 0)) ∧ wr.rowIs b_t2 27 256 (pyF fun _ => 0) ∧ Below w.heap.size w wr) (fun _ sv _ => 256 - (intOf sv).toNat)
      case atStart => exact ⟨0, M, 0, Nat.zero_le _, Lib.hid rfl, Lib.hid (Nat.zero_mul _).symm, rfl, rfl, r_0, r_t2, Bw⟩
      case round =>
        clear r_0 r_t2 Bw
        obtain ⟨s, K, B, hs, HK, HB, rfl, rfl, r_t1, r_t2, Bw⟩ := hrel
        by_cases hB : B < 256
        · have hBI : (B : Int) < 256 := by omega
          have hsM : s < M := by
            rcases Nat.lt_or_ge s M with h3 | h3
            · exact h3
            · have h4 : s = M := by omega
              have h5 := HB.out
              have h6 := HMN.out
              rw [h4, Nat.mul_left_comm, h6] at h5
              omega
          have hBn : B + 2 * n ≤ 256 := by rw [HB.out]; exact cut_lt HMN.out hsM
          have hKl : K < 256 := by rw [HK.out]; omega
          obtain ⟨e0, he0⟩ := nat_var (rev7 K)
          have he0l : e0 < 128 := by rw [he0]; exact rev7_lt K
          obtain ⟨z, hz⟩ := nat_var (17 ^ e0 % 3329)
          have hzl : z < 3329 := by rw [hz]; exact Nat.mod_lt _ (by decide)
          have HZV : Hid (Zv (M + s) = z) := Lib.hid (by rw [← HK.out, hz, he0]; rfl)
          have HRV := Lib.hid fun w => rev_any K w hKl
          rw [← he0] at HRV
          have HZT := Lib.hid fun w => zeta_any e0 w (by omega)
          rw [← hz] at HZT
          have hK1 : IntKind.i64.wrap ((K : Int) + 1) = ((K + 1 : Nat) : Int) := by rw [IntWalk.i64_in _ (by omega)]; omega
          obtain ⟨K1, hK1'⟩ := nat_var (K + 1)
          rw [← hK1'] at hK1
          have HK1 := Lib.hid hK1'
          obtain ⟨E, hE⟩ := nat_var (B + n)
          have hwE : IntKind.i64.wrap ((B : Int) + (n : Int)) = (E : Int) := by rw [IntWalk.i64_in _ (by omega)]; omega
          have HE := Lib.hid hE
          obtain ⟨B2, hB2⟩ := nat_var (B + nn)
          have hwB2 : IntKind.i64.wrap ((B : Int) + (nn : Int)) = (B2 : Int) := by have := HNN.out; rw [IntWalk.i64_in _ (by omega)]; omega
          have HB2 := Lib.hid hB2
          have HSM := Lib.hid hsM
          have HBN := Lib.hid hBn
          clear he0 he0l hz hKl hK1' hE hB2 hsM hBn
          go_wp2_with (first
            | (have hgo := HRV; clear hgo
               go_at_call 42
               refine (HRV.out _).mono ?_
               rintro e w5 ⟨rfl, kk⟩
               replace r_t1 := World.rowIs.of_block r_t1 (kk.block _ (World.rowIs.lt r_t1))
               replace r_t2 := World.rowIs.of_block r_t2 (kk.block _ (World.rowIs.lt r_t2))
               have Bw1 := Bw.trans (kk.mono (HGS.out _ Bw))
               clear Bw kk HRV)
            | (have hgo := HZT; clear hgo
               go_at_call 41
               refine (HZT.out _).mono ?_
               rintro e w6 ⟨rfl, kk⟩
               replace r_t1 := World.rowIs.of_block r_t1 (kk.block _ (World.rowIs.lt r_t1))
               replace r_t2 := World.rowIs.of_block r_t2 (kk.block _ (World.rowIs.lt r_t2))
               have Bw2 := Bw1.trans (kk.mono (HGS.out _ Bw1))
               clear Bw1 kk HZT))
          go_loopw [7] (fun jv wr => ∃ r J : Nat, r ≤ n ∧ Hid (J = B + r) ∧ jv = .int .i64 (J : Int) ∧ wr.rowIs b_t1 27 256 (pyF (mix Fm G n B r)) ∧ wr.rowIs b_t2 27 256 (pyF fun _ => 0) ∧ Below w.heap.size w wr) (fun jv _ => B + n - (intOf jv).toNat)
          case atStart => exact ⟨0, B, Nat.zero_le _, Lib.hid rfl, rfl, r_t1, r_t2, Bw2⟩
          case round =>
            clear r_t1 r_t2 Bw2
            obtain ⟨r, J, hr, HJ, rfl, r_t1, r_t2, Bw⟩ := hrel
            by_cases hrn : r < n
            · have hJI : (J : Int) < (E : Int) := by have := HJ.out; have := HE.out; omega
              obtain ⟨jn, hjn⟩ := nat_var (J + n)
              have hJl : J < 256 := by have := HJ.out; have := HBN.out; omega
              have hjnl : jn < 256 := by have := HJ.out; have := HBN.out; omega
              have hJI2 : 0 ≤ (J : Int) ∧ (J : Int) < 256 := by omega
              have hjnI : 0 ≤ (jn : Int) ∧ (jn : Int) < 256 := by omega
              have hwjn : IntKind.i64.wrap ((J : Int) + (n : Int)) = (jn : Int) := by rw [IntWalk.i64_in _ (by omega)]; omega
              have eJ : J = s * (2 * n) + r := by rw [HJ.out, HB.out]
              have hlo := HLO.out s r hrn
              have hhi := HHI.out s r hrn
              rw [HZV.out] at hlo hhi
              rw [← eJ, ← hjn] at hlo hhi
              obtain ⟨x0, hx0⟩ := nat_var (Fm J)
              obtain ⟨x1, hx1⟩ := nat_var (Fm jn)
              have hx0l : x0 < 65536 := by rw [hx0]; exact HFl.out J
              have hx1l : x1 < 65536 := by rw [hx1]; exact HFl.out jn
              rw [← hx0, ← hx1] at hlo hhi
              have m0 : mix Fm G n B r J = x0 := by rw [mix_no (by have := HJ.out; omega), hx0]
              have m1 : mix Fm G n B r jn = x1 := by rw [mix_no (by have := HJ.out; omega), hx1]
              have hwx0 : IntKind.i64.wrap (x0 : Int) = (x0 : Int) := IntWalk.i64_in _ (by omega)
              have hwx1 : IntKind.i64.wrap (x1 : Int) = (x1 : Int) := IntWalk.i64_in _ (by omega)
              obtain ⟨p, hp⟩ := nat_var (z * x1)
              have hlp : p ≤ 3328 * 65535 := by rw [hp]; exact Nat.mul_le_mul (by omega) (by omega)
              have hwp : IntKind.i64.wrap ((z : Int) * (x1 : Int)) = (p : Int) := by rw [← Int.natCast_mul, ← hp, IntWalk.i64_in _ (by omega)]
              obtain ⟨t, ht⟩ := nat_var (p % 3329)
              have hmt : IntKind.i64.wrap ((p : Int).tmod 3329) = (t : Int) := by rw [Int.tmod_eq_emod_of_nonneg (by omega), IntWalk.i64_in _ (by omega)]; omega
              have hnt : (p : Int).tmod 3329 = (t : Int) := by rw [Int.tmod_eq_emod_of_nonneg (by omega)]; omega
              have hlt : t < 3329 := by omega
              obtain ⟨a, ha⟩ := nat_var (x0 % 3329)
              have hma : IntKind.i64.wrap ((x0 : Int).tmod 3329) = (a : Int) := by rw [Int.tmod_eq_emod_of_nonneg (by omega), IntWalk.i64_in _ (by omega)]; omega
              have hna : (x0 : Int).tmod 3329 = (a : Int) := by rw [Int.tmod_eq_emod_of_nonneg (by omega)]; omega
              have hla : a < 3329 := by omega
              obtain ⟨u, hu⟩ := nat_var (a + 3329)
              have hwu : IntKind.i64.wrap ((a : Int) + 3329) = (u : Int) := by rw [IntWalk.i64_in _ (by omega)]; omega
              obtain ⟨v, hv⟩ := nat_var (u - t)
              have hwv : IntKind.i64.wrap ((u : Int) - (t : Int)) = (v : Int) := by rw [IntWalk.i64_in _ (by omega)]; omega
              obtain ⟨h, hh⟩ := nat_var (v % 3329)
              have hmh : IntKind.i64.wrap ((v : Int).tmod 3329) = (h : Int) := by rw [Int.tmod_eq_emod_of_nonneg (by omega), IntWalk.i64_in _ (by omega)]; omega
              have hnh : (v : Int).tmod 3329 = (h : Int) := by rw [Int.tmod_eq_emod_of_nonneg (by omega)]; omega
              have hlh : h < 3329 := by omega
              obtain ⟨c, hc⟩ := nat_var (a + t)
              have hwc : IntKind.i64.wrap ((a : Int) + (t : Int)) = (c : Int) := by rw [IntWalk.i64_in _ (by omega)]; omega
              obtain ⟨l, hl⟩ := nat_var (c % 3329)
              have hml : IntKind.i64.wrap ((c : Int).tmod 3329) = (l : Int) := by rw [Int.tmod_eq_emod_of_nonneg (by omega), IntWalk.i64_in _ (by omega)]; omega
              have hnl : (c : Int).tmod 3329 = (l : Int) := by rw [Int.tmod_eq_emod_of_nonneg (by omega)]; omega
              have hll : l < 3329 := by omega
              have hwh := u16_in h (by omega)
              have hwl := u16_in l (by omega)
              rw [← hp, ← ht, ← ha, ← hc, ← hl] at hlo
              rw [← hp, ← ht, ← ha, ← hu, ← hv, ← hh] at hhi
              have HS1 : Hid (∀ k, k < 256 → (fun k => if k = jn then h else mix Fm G n B r k) k = if k = jn then h else mix Fm G n B r k) := Lib.hid fun k _ => rfl
              have HS2 : Hid (∀ k, k < 256 → mix Fm G n B (r + 1) k = if k = J then l else (fun k => if k = jn then h else mix Fm G n B r k) k) := Lib.hid fun k _ => by
                show mix Fm G n B (r + 1) k = if k = J then l else if k = jn then h else mix Fm G n B r k
                have h8 := HJ.out
                by_cases e1 : k = J
                · rw [if_pos e1, e1, mix_yes (by omega), hlo]
                · rw [if_neg e1]
                  by_cases e2 : k = jn
                  · rw [if_pos e2, e2, mix_yes (by omega), hhi]
                  · rw [if_neg e2]
                    unfold mix
                    by_cases e3 : k < B + r ∨ (B + n ≤ k ∧ k < B + n + r)
                    · rw [if_pos e3, if_pos (by omega)]
                    · rw [if_neg e3, if_neg (by omega)]
              have HJl := Lib.hid hJl
              have HJn := Lib.hid hjnl
              have HM0 := Lib.hid m0
              have HM1 := Lib.hid m1
              have HRN := Lib.hid hrn
              have HJ2 : Hid (J + 1 = B + (r + 1)) := Lib.hid (by rw [HJ.out, Nat.add_assoc])
              have hwJ1 : IntKind.i64.wrap ((J : Int) + 1) = ((J + 1 : Nat) : Int) := by rw [IntWalk.i64_in _ (by omega)]; omega
              obtain ⟨J1, hJ1⟩ := nat_var (J + 1)
              rw [← hJ1] at hwJ1 HJ2
              have HMS : Hid (B + n - J1 < B + n - J) := Lib.hid (by have := HJ.out; omega)
              clear hlo hhi hx0 hx1 m0 m1 eJ hp ht ha hu hv hh hc hl hjn hJ1 hrn hJl hjnl
              go_wp2_with (first
                | refine wpList_load_py rfl (.tmp 37) rfl r_t1 HJn.out rfl HM1.out ?_
                | refine wpList_load_py rfl (.tmp 43) rfl r_t1 HJl.out rfl HM0.out ?_
                | (refine wpList_store_py rfl (.tmp 56) (.tmp 55) rfl (fun k => if k = jn then h else mix Fm G n B r k) r_t1 HJn.out rfl rfl HS1.out ?_
                   intro w7 q7 g7
                   replace r_t2 := gb_rowIs r_t2 g7 (Ne.symm n_t1_t2)
                   have Bw3 := Bw.grown g7 (HGS.out _ Bw) (by intro k hk; cases hk; exact l_t1)
                   clear Bw g7 r_t1 HS1)
                | (refine wpList_store_py rfl (.tmp 63) (.tmp 62) rfl (mix Fm G n B (r + 1)) q7 HJl.out rfl rfl HS2.out ?_
                   intro w8 q8 g8
                   replace r_t2 := gb_rowIs r_t2 g8 (Ne.symm n_t1_t2)
                   have Bw4 := Bw3.grown g8 (HGS.out _ Bw3) (by intro k hk; cases hk; exact l_t1)
                   clear Bw3 g8 q7 HS2))
              go_roundw
              case rel => exact ⟨r + 1, J1, HRN.out, HJ2, rfl, q8, r_t2, Bw4⟩
              case measure => (have := HMS.out; simp [intOf]; try omega)
            · obtain rfl : r = n := by omega
              have hJI : ¬ (J : Int) < (E : Int) := by have := HJ.out; have := HE.out; omega
              have hB3 : B2 = B + 2 * r := by have := HB2.out; have := HNN.out; omega
              have r_n : wr.rowIs b_t1 27 256 (pyF (mix Fm G r B2 0)) := pyF_congr r_t1 fun k _ => by
                unfold mix
                by_cases e3 : k < B2
                · rw [if_pos (by omega), if_pos (by omega)]
                · rw [if_neg (by omega), if_neg (by omega)]
              have HSB : Hid (B2 = (s + 1) * (2 * r)) := Lib.hid (by rw [hB3, Nat.add_mul, Nat.one_mul, ← HB.out])
              have HKK : Hid (K1 = M + (s + 1)) := Lib.hid (by rw [HK1.out, HK.out, Nat.add_assoc])
              have HMS : Hid (256 - B2 < 256 - B) := Lib.hid (by omega)
              clear hB3 r_t1
              go_wp2
              go_roundw
              case rel => exact ⟨s + 1, K1, B2, HSM.out, HKK, HSB, rfl, rfl, r_n, r_t2, Bw⟩
              case measure => (have := HMS.out; simp [intOf]; try omega)
        · have hBI : ¬ (B : Int) < 256 := by omega
          obtain ⟨hsM, hB256⟩ := cut_ge HMN.out HB.out hs hB
          have r_n : wr.rowIs b_t1 27 256 (pyF (stg f (m + 1))) := pyF_congr r_t1 fun k hk => by rw [mix_yes (by omega), HG.out]
          have HK2 : Hid (K = 2 ^ (m + 1)) := Lib.hid (by rw [HK.out, hsM, Nat.pow_succ, ← HM.out]; omega)
          have HKN : Hid (K * n' = 128) := Lib.hid (by
            have h3 := HMN.out
            have h4 := HEV.out
            have h5 := HN2.out
            rw [HK.out, hsM, h5, ← Nat.two_mul, Nat.mul_assoc, Nat.mul_left_comm, ← h4]
            exact h3)
          have HLT : Hid (n' < n) := Lib.hid (by have := HN2.out; omega)
          clear r_t1 hsM hB256
          go_wp2
          go_roundw
          case rel => exact ⟨m + 1, K, n', HM7.out, HK2, HKN, rfl, rfl, r_n, r_t2, Bw⟩
          case measure => (have := HLT.out; simp [intOf]; try omega)
    · have h2I : ¬ (2 : Int) ≤ (n : Int) := by omega
      obtain rfl : m = 7 := two_end n m M HM.out hm HMN.out h2
      have Bw0 := Bw
      clear Bw
      go_wp2_with (first
        | (have hgo := Bw0; clear hgo
           refine wpList_load_as rfl 27 (.tmp 1) rfl 256 (pyF (stg f 7)) arrPy r_t1 rfl (by omega) (fun i hi => by rw [Nat.zero_add]) ?_
           have Bw1 := Bw0
           clear Bw0)
        | (have hgo := Bw1; clear hgo
           refine wpList_store_as rfl 27 (.tmp 2) (.tmp 64) rfl 256 (pyF (stg f 7)) arrPy r_t2 rfl rfl (by omega) (fun _ _ => rfl) (fun i hi => putN_whole hi) ?_
           intro w502 q gk
           replace r_t1 := gb_rowIs r_t1 gk n_t1_t2
           replace r_t2 := q
           have Bw2 := Bw1.grown gk (HGS.out _ Bw1) (by intro k hk; cases hk; exact l_t2)
           clear Bw1 gk q))
      exact ret_cell_as _ rfl arrPy r_t2 rfl (by omega) (fun _ _ => rfl) rfl ⟨rfl, Bw2⟩
end Go.Proofs.Ytnpifjimmeehdaa

/- The document's polynomials: the way back of the transform. -/
namespace Go.Proofs.Ytnpifjimmeehdaa
open Go.RowKit Go.Deep
set_option linter.unusedSimpArgs false
set_option linter.unusedVariables false

def ilyV (n : Nat) (F : Nat → Nat) (i : Nat) : Nat :=
  if i % (2 * n) < n then (F i % 3329 + F (i + n) % 3329) % 3329 else Zv (256 / n - 1 - i / (2 * n)) * (F i % 3329 + 3329 - F (i - n) % 3329) % 3329
theorem ilyV_lo (n s r : Nat) (hr : r < n) (F : Nat → Nat) : ilyV n F (s * (2 * n) + r) = (F (s * (2 * n) + r) % 3329 + F (s * (2 * n) + r + n) % 3329) % 3329 := by
  have d1 : (s * (2 * n) + r) % (2 * n) = r := by rw [Nat.mul_add_mod_self_right, Nat.mod_eq_of_lt (by omega)]
  rw [ilyV, d1, if_pos hr]
theorem ilyV_hi (n s r : Nat) (hr : r < n) (F : Nat → Nat) : ilyV n F (s * (2 * n) + r + n) = Zv (256 / n - 1 - s) * (F (s * (2 * n) + r + n) % 3329 + 3329 - F (s * (2 * n) + r) % 3329) % 3329 := by
  have d2 : (s * (2 * n) + r + n) % (2 * n) = r + n := by rw [Nat.add_assoc, Nat.mul_add_mod_self_right, Nat.mod_eq_of_lt (by omega)]
  have q2 : (s * (2 * n) + r + n) / (2 * n) = s := by rw [Nat.add_assoc, Nat.mul_comm, Nat.mul_add_div (by omega), Nat.div_eq_of_lt (by omega)]; omega
  rw [ilyV, d2, q2, if_neg (by omega), Nat.add_sub_cancel]
theorem ilyV_lt (n : Nat) (F : Nat → Nat) (i : Nat) : ilyV n F i < 3329 := by
  unfold ilyV
  split <;> exact Nat.mod_lt _ (by decide)
theorem ilyV_rq (n : Nat) (F : Nat → Nat) (i : Nat) : rq (ilyV n F i) = ily n (fun i => rq (F i)) i := by
  unfold ilyV ily Zt
  have e : ∀ k, qpw 17 (rev7 k) = rq (Zv k) := fun k => by
    rw [show (17 : Rq) = rq 17 from rfl, qpw_val]
    exact (rq_mod _).symm
  by_cases h : i % (2 * n) < n
  · rw [if_pos h, if_pos h, rq_mod, rq_add, rq_mod, rq_mod]
  · rw [if_neg h, if_neg h, rq_mod, rq_mul, Nat.add_sub_assoc (Nat.le_of_lt (Nat.mod_lt _ (by decide))), rq_sub _ _ _ (Nat.le_of_lt (Nat.mod_lt _ (by decide))) (by decide), rq_mod, rq_mod, e]
def istg (f : Nat → Nat) : Nat → Nat → Nat
  | 0 => f
  | m + 1 => ilyV (2 ^ (m + 1)) (istg f m)
def invN (f : Nat → Nat) (i : Nat) : Nat := istg f 7 i * 3303 % 3329
theorem istg_lt {f : Nat → Nat} (hf : ∀ i, f i < 65536) : ∀ m i, istg f m i < 65536
  | 0, i => hf i
  | m + 1, i => Nat.lt_trans (ilyV_lt _ _ i) (by decide)
theorem invN_lt (f : Nat → Nat) (i : Nat) : invN f i < 3329 := Nat.mod_lt _ (by decide)
theorem invN_rq (f : Nat → Nat) : (fun i => rq (invN f i)) = invR (fun i => rq (f i)) := by
  have e : ∀ n (F : Nat → Nat), (fun i => rq (ilyV n F i)) = ily n (fun i => rq (F i)) := fun n F => funext fun i => ilyV_rq n F i
  have h : (fun i => rq (istg f 7 i)) = ivR (fun i => rq (f i)) := by
    show (fun i => rq (ilyV 128 (ilyV 64 (ilyV 32 (ilyV 16 (ilyV 8 (ilyV 4 (ilyV 2 f)))))) i)) = _
    rw [e, e, e, e, e, e, e]
    rfl
  funext i
  unfold invN invR
  rw [rq_mod, rq_mul, ← h]
  rfl
theorem inv_m (n m K : Nat) (hn : n = 2 ^ (m + 1)) (hm : m ≤ 7) (h : n * (K + 1) = 256) (h2 : n ≤ 128) : m < 7 ∧ 2 ≤ n ∧ ∃ M, M * n = 128 ∧ K + 1 = 2 * M ∧ M ≤ 64 ∧ 1 ≤ M ∧ 256 / n = 2 * M := by
  rcases (show m = 0 ∨ m = 1 ∨ m = 2 ∨ m = 3 ∨ m = 4 ∨ m = 5 ∨ m = 6 ∨ m = 7 by omega) with rfl | rfl | rfl | rfl | rfl | rfl | rfl | rfl <;> (simp only [Nat.reduceAdd, Nat.reducePow] at hn; subst hn)
  · exact ⟨by decide, by decide, 64, by decide, by omega, by decide, by decide, by decide⟩
  · exact ⟨by decide, by decide, 32, by decide, by omega, by decide, by decide, by decide⟩
  · exact ⟨by decide, by decide, 16, by decide, by omega, by decide, by decide, by decide⟩
  · exact ⟨by decide, by decide, 8, by decide, by omega, by decide, by decide, by decide⟩
  · exact ⟨by decide, by decide, 4, by decide, by omega, by decide, by decide, by decide⟩
  · exact ⟨by decide, by decide, 2, by decide, by omega, by decide, by decide, by decide⟩
  · exact ⟨by decide, by decide, 1, by decide, by omega, by decide, by decide, by decide⟩
  · omega
theorem inv_end (n m : Nat) (hn : n = 2 ^ (m + 1)) (hm : m ≤ 7) (h2 : ¬ n ≤ 128) : m = 7 := by
  rcases (show m = 0 ∨ m = 1 ∨ m = 2 ∨ m = 3 ∨ m = 4 ∨ m = 5 ∨ m = 6 ∨ m = 7 by omega) with rfl | rfl | rfl | rfl | rfl | rfl | rfl | rfl <;> (simp only [Nat.reduceAdd, Nat.reducePow] at hn; subst hn; omega)
set_option maxHeartbeats 4000000 in
set_option maxRecDepth 20000 in
theorem refInverse_any (f : Nat → Nat) (w : World) (hf : ∀ i, f i < 65536) : Calls Try.prog 21 #[.agg (arrOf 256 (pyF f))] w fun e w' => e = .returned (.agg (arrOf 256 (pyF (invN f)))) ∧ Below w.heap.size w w' := by
  have Bw0 := Below.refl w.heap.size w
  have HGS : Hid (∀ wq : World, Below w.heap.size w wq → w.heap.size ≤ wq.heap.size) := Lib.hid fun wq h => h.size
  have Hf := Lib.hid (istg_lt hf)
  clear hf
  go_enter Try.func21, Try.ntmps21
  go_wp2_with (first
    | (have hgo := Bw0; clear hgo
       refine wpList_box_row rfl 27 (.tmp 0) rfl 256 (pyF f) rfl ?_
       intro b_t1 w1 lk r_t1 kk
       have l_t1 := Nat.le_trans (HGS.out _ Bw0) lk
       have Bw1 := Bw0.trans (kk.mono (HGS.out _ Bw0))
       clear Bw0 kk lk)
    | (have hgo := Bw1; clear hgo
       refine wpList_alloc_row rfl 27 rfl 256 (pyF fun _ => 0) zeroPy ?_
       intro b_t2 w2 lk r_t2 kk
       have n_t1_t2 : b_t1 ≠ b_t2 := Nat.ne_of_lt (Nat.lt_of_lt_of_le (World.rowIs.lt r_t1) lk)
       have l_t2 := Nat.le_trans (HGS.out _ Bw1) lk
       replace r_t1 := World.rowIs.of_block r_t1 (kk.block _ (World.rowIs.lt r_t1))
       have Bw2 := Bw1.trans (kk.mono (HGS.out _ Bw1))
       clear Bw1 kk lk))
  go_loopw [3, 4] (fun kv nv wr => ∃ m K n : Nat, m ≤ 7 ∧ Hid (n = 2 ^ (m + 1)) ∧ Hid (n * (K + 1) = 256) ∧ kv = .int .i64 (K : Int) ∧ nv = .int .i64 (n : Int) ∧ wr.rowIs b_t1 27 256 (pyF (istg f m)) ∧ wr.rowIs b_t2 27 256 (pyF fun _ => 0) ∧ Below w.heap.size w wr) (fun _ nv _ => 300 - (intOf nv).toNat)
  case atStart => exact ⟨0, 127, 2, Nat.zero_le _, Lib.hid rfl, Lib.hid rfl, rfl, rfl, r_t1, r_t2, Bw2⟩
  case round =>
    clear r_t1 r_t2 Bw2
    obtain ⟨m, K0, n, hm, HN, HNK, rfl, rfl, r_t1, r_t2, Bw⟩ := hrel
    by_cases h2 : n ≤ 128
    · have h2I : (n : Int) ≤ 128 := by omega
      obtain ⟨hm7, hn2, M, hMN, hKM, hM64, hM1, hdv⟩ := inv_m n m K0 HN.out hm HNK.out h2
      have HMN := Lib.hid hMN
      obtain ⟨G, hG⟩ : ∃ G, G = istg f (m + 1) := ⟨_, rfl⟩
      obtain ⟨Fm, hF⟩ : ∃ F, F = istg f m := ⟨_, rfl⟩
      have HG := Lib.hid hG
      have HFl : Hid (∀ i, Fm i < 65536) := Lib.hid fun i => by rw [hF]; exact Hf.out m i
      have HLO : Hid (∀ s r, r < n → G (s * (2 * n) + r) = (Fm (s * (2 * n) + r) % 3329 + Fm (s * (2 * n) + r + n) % 3329) % 3329) := Lib.hid fun s r hr => by
        rw [hG, hF]
        show ilyV (2 ^ (m + 1)) (istg f m) _ = _
        rw [← HN.out, ilyV_lo n s r hr]
      have HHI : Hid (∀ s r, r < n → G (s * (2 * n) + r + n) = Zv (2 * M - 1 - s) * (Fm (s * (2 * n) + r + n) % 3329 + 3329 - Fm (s * (2 * n) + r) % 3329) % 3329) := Lib.hid fun s r hr => by
        rw [hG, hF]
        show ilyV (2 ^ (m + 1)) (istg f m) _ = _
        rw [← HN.out, ilyV_hi n s r hr, hdv]
      rw [← hF] at r_t1
      have r_0 : wr.rowIs b_t1 27 256 (pyF (mix Fm G n 0 0)) := pyF_congr r_t1 fun k _ => (mix_no (by omega)).symm
      obtain ⟨nn, hnn⟩ := nat_var (2 * n)
      have hwnn : IntKind.i64.wrap (2 * (n : Int)) = (nn : Int) := by rw [IntWalk.i64_in _ (by omega)]; omega
      have HNN := Lib.hid hnn
      have HM7 := Lib.hid hm7
      have HK0 : Hid (K0 + 0 + 1 = 2 * M) := Lib.hid hKM
      clear hG hF hdv r_t1 hm7 hnn hMN hKM
      go_wp2
      go_loopw [3, 5] (fun kv sv wr => ∃ s K B : Nat, s ≤ M ∧ Hid (K + s + 1 = 2 * M) ∧ Hid (B = s * (2 * n)) ∧ kv = .int .i64 (K : Int) ∧ sv = .int .i64 (B : Int) ∧ wr.rowIs b_t1 27 256 (pyF (mix Fm G n B 0)) ∧ wr.rowIs b_t2 27 256 (pyF fun _ => 0) ∧ Below w.heap.size w wr) (fun _ sv _ => 256 - (intOf sv).toNat)
      case atStart => exact ⟨0, K0, 0, Nat.zero_le _, HK0, Lib.hid (Nat.zero_mul _).symm, rfl, rfl, r_0, r_t2, Bw⟩
      case round =>
        clear r_0 r_t2 Bw
        obtain ⟨s, K, B, hs, HK, HB, rfl, rfl, r_t1, r_t2, Bw⟩ := hrel
        by_cases hB : B < 256
        · have hBI : (B : Int) < 256 := by omega
          have hsM : s < M := by
            rcases Nat.lt_or_ge s M with h3 | h3
            · exact h3
            · have h4 : s = M := by omega
              have h5 := HB.out
              have h6 := HMN.out
              rw [h4, Nat.mul_left_comm, h6] at h5
              omega
          have hBn : B + 2 * n ≤ 256 := by rw [HB.out]; exact cut_lt HMN.out hsM
          have hKl : K < 256 := by have := HK.out; omega
          have hK1l : 1 ≤ K := by have := HK.out; omega
          obtain ⟨e0, he0⟩ := nat_var (rev7 K)
          have he0l : e0 < 128 := by rw [he0]; exact rev7_lt K
          obtain ⟨z, hz⟩ := nat_var (17 ^ e0 % 3329)
          have hzl : z < 3329 := by rw [hz]; exact Nat.mod_lt _ (by decide)
          have HZV : Hid (Zv (2 * M - 1 - s) = z) := Lib.hid (by rw [show 2 * M - 1 - s = K by have := HK.out; omega, hz, he0]; rfl)
          have HRV := Lib.hid fun w => rev_any K w hKl
          rw [← he0] at HRV
          have HZT := Lib.hid fun w => zeta_any e0 w (by omega)
          rw [← hz] at HZT
          have hK1 : IntKind.i64.wrap ((K : Int) - 1) = ((K - 1 : Nat) : Int) := by rw [IntWalk.i64_in _ (by omega)]; omega
          obtain ⟨K1, hK1'⟩ := nat_var (K - 1)
          rw [← hK1'] at hK1
          have HK1 : Hid (K1 + (s + 1) + 1 = 2 * M) := Lib.hid (by have := HK.out; omega)
          obtain ⟨E, hE⟩ := nat_var (B + n)
          have hwE : IntKind.i64.wrap ((B : Int) + (n : Int)) = (E : Int) := by rw [IntWalk.i64_in _ (by omega)]; omega
          have HE := Lib.hid hE
          obtain ⟨B2, hB2⟩ := nat_var (B + nn)
          have hwB2 : IntKind.i64.wrap ((B : Int) + (nn : Int)) = (B2 : Int) := by have := HNN.out; rw [IntWalk.i64_in _ (by omega)]; omega
          have HB2 := Lib.hid hB2
          have HSM := Lib.hid hsM
          have HBN := Lib.hid hBn
          clear he0 he0l hz hKl hK1l hK1' hE hB2 hsM hBn
          go_wp2_with (first
            | (have hgo := HRV; clear hgo
               go_at_call 42
               refine (HRV.out _).mono ?_
               rintro e w5 ⟨rfl, kk⟩
               replace r_t1 := World.rowIs.of_block r_t1 (kk.block _ (World.rowIs.lt r_t1))
               replace r_t2 := World.rowIs.of_block r_t2 (kk.block _ (World.rowIs.lt r_t2))
               have Bw1 := Bw.trans (kk.mono (HGS.out _ Bw))
               clear Bw kk HRV)
            | (have hgo := HZT; clear hgo
               go_at_call 41
               refine (HZT.out _).mono ?_
               rintro e w6 ⟨rfl, kk⟩
               replace r_t1 := World.rowIs.of_block r_t1 (kk.block _ (World.rowIs.lt r_t1))
               replace r_t2 := World.rowIs.of_block r_t2 (kk.block _ (World.rowIs.lt r_t2))
               have Bw2 := Bw1.trans (kk.mono (HGS.out _ Bw1))
               clear Bw1 kk HZT))
          go_loopw [7] (fun jv wr => ∃ r J : Nat, r ≤ n ∧ Hid (J = B + r) ∧ jv = .int .i64 (J : Int) ∧ wr.rowIs b_t1 27 256 (pyF (mix Fm G n B r)) ∧ wr.rowIs b_t2 27 256 (pyF fun _ => 0) ∧ Below w.heap.size w wr) (fun jv _ => B + n - (intOf jv).toNat)
          case atStart => exact ⟨0, B, Nat.zero_le _, Lib.hid rfl, rfl, r_t1, r_t2, Bw2⟩
          case round =>
            clear r_t1 r_t2 Bw2
            obtain ⟨r, J, hr, HJ, rfl, r_t1, r_t2, Bw⟩ := hrel
            by_cases hrn : r < n
            · have hJI : (J : Int) < (E : Int) := by have := HJ.out; have := HE.out; omega
              obtain ⟨jn, hjn⟩ := nat_var (J + n)
              have hJl : J < 256 := by have := HJ.out; have := HBN.out; omega
              have hjnl : jn < 256 := by have := HJ.out; have := HBN.out; omega
              have hJI2 : 0 ≤ (J : Int) ∧ (J : Int) < 256 := by omega
              have hjnI : 0 ≤ (jn : Int) ∧ (jn : Int) < 256 := by omega
              have hwjn : IntKind.i64.wrap ((J : Int) + (n : Int)) = (jn : Int) := by rw [IntWalk.i64_in _ (by omega)]; omega
              have eJ : J = s * (2 * n) + r := by rw [HJ.out, HB.out]
              have hlo := HLO.out s r hrn
              have hhi := HHI.out s r hrn
              rw [HZV.out] at hhi
              rw [← eJ, ← hjn] at hlo hhi
              obtain ⟨x0, hx0⟩ := nat_var (Fm J)
              obtain ⟨x1, hx1⟩ := nat_var (Fm jn)
              have hx0l : x0 < 65536 := by rw [hx0]; exact HFl.out J
              have hx1l : x1 < 65536 := by rw [hx1]; exact HFl.out jn
              rw [← hx0, ← hx1] at hlo hhi
              have m0 : mix Fm G n B r J = x0 := by rw [mix_no (by have := HJ.out; omega), hx0]
              have m1 : mix Fm G n B r jn = x1 := by rw [mix_no (by have := HJ.out; omega), hx1]
              have hwx0 : IntKind.i64.wrap (x0 : Int) = (x0 : Int) := IntWalk.i64_in _ (by omega)
              have hwx1 : IntKind.i64.wrap (x1 : Int) = (x1 : Int) := IntWalk.i64_in _ (by omega)
              obtain ⟨a, ha⟩ := nat_var (x0 % 3329)
              have hma : IntKind.i64.wrap ((x0 : Int).tmod 3329) = (a : Int) := by rw [Int.tmod_eq_emod_of_nonneg (by omega), IntWalk.i64_in _ (by omega)]; omega
              have hna : (x0 : Int).tmod 3329 = (a : Int) := by rw [Int.tmod_eq_emod_of_nonneg (by omega)]; omega
              have hla : a < 3329 := by omega
              obtain ⟨c, hc⟩ := nat_var (x1 % 3329)
              have hmc : IntKind.i64.wrap ((x1 : Int).tmod 3329) = (c : Int) := by rw [Int.tmod_eq_emod_of_nonneg (by omega), IntWalk.i64_in _ (by omega)]; omega
              have hnc : (x1 : Int).tmod 3329 = (c : Int) := by rw [Int.tmod_eq_emod_of_nonneg (by omega)]; omega
              have hlc : c < 3329 := by omega
              obtain ⟨d, hd⟩ := nat_var (a + c)
              have hwd : IntKind.i64.wrap ((a : Int) + (c : Int)) = (d : Int) := by rw [IntWalk.i64_in _ (by omega)]; omega
              obtain ⟨l, hl⟩ := nat_var (d % 3329)
              have hml : IntKind.i64.wrap ((d : Int).tmod 3329) = (l : Int) := by rw [Int.tmod_eq_emod_of_nonneg (by omega), IntWalk.i64_in _ (by omega)]; omega
              have hnl : (d : Int).tmod 3329 = (l : Int) := by rw [Int.tmod_eq_emod_of_nonneg (by omega)]; omega
              have hll : l < 3329 := by omega
              obtain ⟨u, hu⟩ := nat_var (c + 3329)
              have hwu : IntKind.i64.wrap ((c : Int) + 3329) = (u : Int) := by rw [IntWalk.i64_in _ (by omega)]; omega
              obtain ⟨v, hv⟩ := nat_var (u - a)
              have hwv : IntKind.i64.wrap ((u : Int) - (a : Int)) = (v : Int) := by rw [IntWalk.i64_in _ (by omega)]; omega
              obtain ⟨p, hp⟩ := nat_var (z * v)
              have hlp : p ≤ 3328 * 6657 := by rw [hp]; exact Nat.mul_le_mul (by omega) (by omega)
              have hwp : IntKind.i64.wrap ((z : Int) * (v : Int)) = (p : Int) := by rw [← Int.natCast_mul, ← hp, IntWalk.i64_in _ (by omega)]
              obtain ⟨h, hh⟩ := nat_var (p % 3329)
              have hmh : IntKind.i64.wrap ((p : Int).tmod 3329) = (h : Int) := by rw [Int.tmod_eq_emod_of_nonneg (by omega), IntWalk.i64_in _ (by omega)]; omega
              have hnh : (p : Int).tmod 3329 = (h : Int) := by rw [Int.tmod_eq_emod_of_nonneg (by omega)]; omega
              have hlh : h < 3329 := by omega
              have hwh := u16_in h (by omega)
              have hwl := u16_in l (by omega)
              rw [← ha, ← hc, ← hd, ← hl] at hlo
              rw [← ha, ← hc, ← hu, ← hv, ← hp, ← hh] at hhi
              have HS1 : Hid (∀ k, k < 256 → (fun k => if k = J then l else mix Fm G n B r k) k = if k = J then l else mix Fm G n B r k) := Lib.hid fun k _ => rfl
              have HS2 : Hid (∀ k, k < 256 → mix Fm G n B (r + 1) k = if k = jn then h else (fun k => if k = J then l else mix Fm G n B r k) k) := Lib.hid fun k _ => by
                show mix Fm G n B (r + 1) k = if k = jn then h else if k = J then l else mix Fm G n B r k
                have h8 := HJ.out
                by_cases e2 : k = jn
                · rw [if_pos e2, e2, mix_yes (by omega), hhi]
                · rw [if_neg e2]
                  by_cases e1 : k = J
                  · rw [if_pos e1, e1, mix_yes (by omega), hlo]
                  · rw [if_neg e1]
                    unfold mix
                    by_cases e3 : k < B + r ∨ (B + n ≤ k ∧ k < B + n + r)
                    · rw [if_pos e3, if_pos (by omega)]
                    · rw [if_neg e3, if_neg (by omega)]
              have HJl := Lib.hid hJl
              have HJn := Lib.hid hjnl
              have HM0 := Lib.hid m0
              have HM1 := Lib.hid m1
              have HRN := Lib.hid hrn
              have HJ2 : Hid (J + 1 = B + (r + 1)) := Lib.hid (by rw [HJ.out, Nat.add_assoc])
              have hwJ1 : IntKind.i64.wrap ((J : Int) + 1) = ((J + 1 : Nat) : Int) := by rw [IntWalk.i64_in _ (by omega)]; omega
              obtain ⟨J1, hJ1⟩ := nat_var (J + 1)
              rw [← hJ1] at hwJ1 HJ2
              have HMS : Hid (B + n - J1 < B + n - J) := Lib.hid (by have := HJ.out; omega)
              clear hlo hhi hx0 hx1 m0 m1 eJ hp ha hu hv hh hc hd hl hjn hJ1 hrn hJl hjnl
              go_wp2_with (first
                | refine wpList_load_py rfl (.tmp 35) rfl r_t1 HJl.out rfl HM0.out ?_
                | refine wpList_load_py rfl (.tmp 42) rfl r_t1 HJn.out rfl HM1.out ?_
                | (refine wpList_store_py rfl (.tmp 52) (.tmp 51) rfl (fun k => if k = J then l else mix Fm G n B r k) r_t1 HJl.out rfl rfl HS1.out ?_
                   intro w7 q7 g7
                   replace r_t2 := gb_rowIs r_t2 g7 (Ne.symm n_t1_t2)
                   have Bw3 := Bw.grown g7 (HGS.out _ Bw) (by intro k hk; cases hk; exact l_t1)
                   clear Bw g7 r_t1 HS1)
                | (refine wpList_store_py rfl (.tmp 64) (.tmp 63) rfl (mix Fm G n B (r + 1)) q7 HJn.out rfl rfl HS2.out ?_
                   intro w8 q8 g8
                   replace r_t2 := gb_rowIs r_t2 g8 (Ne.symm n_t1_t2)
                   have Bw4 := Bw3.grown g8 (HGS.out _ Bw3) (by intro k hk; cases hk; exact l_t1)
                   clear Bw3 g8 q7 HS2))
              go_roundw
              case rel => exact ⟨r + 1, J1, HRN.out, HJ2, rfl, q8, r_t2, Bw4⟩
              case measure => (have := HMS.out; simp [intOf]; try omega)
            · obtain rfl : r = n := by omega
              have hJI : ¬ (J : Int) < (E : Int) := by have := HJ.out; have := HE.out; omega
              have hB3 : B2 = B + 2 * r := by have := HB2.out; have := HNN.out; omega
              have r_n : wr.rowIs b_t1 27 256 (pyF (mix Fm G r B2 0)) := pyF_congr r_t1 fun k _ => by
                unfold mix
                by_cases e3 : k < B2
                · rw [if_pos (by omega), if_pos (by omega)]
                · rw [if_neg (by omega), if_neg (by omega)]
              have HSB : Hid (B2 = (s + 1) * (2 * r)) := Lib.hid (by rw [hB3, Nat.add_mul, Nat.one_mul, ← HB.out])
              have HMS : Hid (256 - B2 < 256 - B) := Lib.hid (by omega)
              clear hB3 r_t1
              go_wp2
              go_roundw
              case rel => exact ⟨s + 1, K1, B2, HSM.out, HK1, HSB, rfl, rfl, r_n, r_t2, Bw⟩
              case measure => (have := HMS.out; simp [intOf]; try omega)
        · have hBI : ¬ (B : Int) < 256 := by omega
          obtain ⟨hsM, hB256⟩ := cut_ge HMN.out HB.out hs hB
          have r_n : wr.rowIs b_t1 27 256 (pyF (istg f (m + 1))) := pyF_congr r_t1 fun k hk => by rw [mix_yes (by omega), HG.out]
          have HK2 : Hid (nn = 2 ^ (m + 1 + 1)) := Lib.hid (by rw [HNN.out, Nat.pow_succ 2 (m + 1), ← HN.out, Nat.mul_comm])
          have HKN : Hid (nn * (K + 1) = 256) := Lib.hid (by
            have h3 := HMN.out
            have h4 : K + 1 = M := by have := HK.out; omega
            rw [HNN.out, h4, Nat.mul_assoc, Nat.mul_comm n, h3])
          have HLT : Hid (300 - nn < 300 - n) := Lib.hid (by have := HNN.out; omega)
          clear r_t1 hsM hB256
          go_wp2
          go_roundw
          case rel => exact ⟨m + 1, K, nn, HM7.out, HK2, HKN, rfl, rfl, r_n, r_t2, Bw⟩
          case measure => (have := HLT.out; simp [intOf]; try omega)
    · have h2I : ¬ (n : Int) ≤ 128 := by omega
      obtain rfl : m = 7 := inv_end n m HN.out hm h2
      go_wp2
      go_loopw [10] (fun iv wq => ∃ i : Nat, i ≤ 256 ∧ iv = .int .i64 (i : Int) ∧ wq.rowIs b_t1 27 256 (pyF fun k => if k < i then invN f k else istg f 7 k) ∧ wq.rowIs b_t2 27 256 (pyF fun _ => 0) ∧ Below w.heap.size w wq) (fun iv _ => 256 - (intOf iv).toNat)
      case atStart => exact ⟨0, Nat.zero_le _, rfl, pyF_congr r_t1 (fun k _ => (if_neg (Nat.not_lt_zero k)).symm), r_t2, Bw⟩
      case round =>
        clear r_t1 r_t2 Bw
        obtain ⟨i, hi, rfl, r_t1, r_t2, Bw⟩ := hrel
        by_cases hlt : i < 256
        · have hiI : 0 ≤ (i : Int) ∧ (i : Int) < 256 := by omega
          obtain ⟨x, hx⟩ := nat_var (istg f 7 i)
          have hxl : x < 65536 := by rw [hx]; exact Hf.out 7 i
          have hwx : IntKind.i64.wrap (x : Int) = (x : Int) := IntWalk.i64_in _ (by omega)
          obtain ⟨p, hp⟩ := nat_var (x * 3303)
          have hwp : IntKind.i64.wrap ((x : Int) * 3303) = (p : Int) := by rw [IntWalk.i64_in _ (by omega)]; omega
          obtain ⟨z, hz⟩ := nat_var (p % 3329)
          have hmz : IntKind.i64.wrap ((p : Int).tmod 3329) = (z : Int) := by rw [Int.tmod_eq_emod_of_nonneg (by omega), IntWalk.i64_in _ (by omega)]; omega
          have hnz : (p : Int).tmod 3329 = (z : Int) := by rw [Int.tmod_eq_emod_of_nonneg (by omega)]; omega
          have hwz := u16_in z (by omega)
          have hres : invN f i = z := by unfold invN; rw [hz, hp, hx]
          have HX : Hid ((fun k => if k < i then invN f k else istg f 7 k) i = x) := Lib.hid (by show (if i < i then _ else _) = x; rw [if_neg (Nat.lt_irrefl i), hx])
          have HS : Hid (∀ k, k < 256 → (fun k => if k < i + 1 then invN f k else istg f 7 k) k = if k = i then z else (fun k => if k < i then invN f k else istg f 7 k) k) := Lib.hid fun k _ => by
            show (if k < i + 1 then invN f k else istg f 7 k) = if k = i then z else if k < i then invN f k else istg f 7 k
            by_cases e : k = i
            · subst e; rw [if_pos (Nat.lt_succ_self k), if_pos rfl, hres]
            · rw [if_neg e]
              by_cases h3 : k < i
              · rw [if_pos h3, if_pos (by omega)]
              · rw [if_neg h3, if_neg (by omega)]
          have HIL := Lib.hid hlt
          clear hx hp hz hres
          go_wp2_with (first
            | refine wpList_load_py rfl (.tmp 71) rfl r_t1 HIL.out rfl HX.out ?_
            | (refine wpList_store_py rfl (.tmp 77) (.tmp 76) rfl (fun k => if k < i + 1 then invN f k else istg f 7 k) r_t1 HIL.out rfl rfl HS.out ?_
               intro w7 q7 g7
               replace r_t2 := gb_rowIs r_t2 g7 (Ne.symm n_t1_t2)
               have Bw3 := Bw.grown g7 (HGS.out _ Bw) (by intro k hk; cases hk; exact l_t1)
               clear Bw g7 r_t1 HS))
          go_roundw
          case rel => exact ⟨i + 1, by have := HIL.out; omega, by go_num, q7, r_t2, Bw3⟩
          case measure => (simp [intOf]; try omega)
        · obtain rfl : i = 256 := by omega
          replace r_t1 := pyF_congr (g := invN f) r_t1 fun k hk => if_pos hk
          have Bw0 := Bw
          clear Bw
          go_wp2_with (first
            | (have hgo := Bw0; clear hgo
               refine wpList_load_as rfl 27 (.tmp 1) rfl 256 (pyF (invN f)) arrPy r_t1 rfl (by omega) (fun i hi => by rw [Nat.zero_add]) ?_
               have Bw1 := Bw0
               clear Bw0)
            | (have hgo := Bw1; clear hgo
               refine wpList_store_as rfl 27 (.tmp 2) (.tmp 78) rfl 256 (pyF (invN f)) arrPy r_t2 rfl rfl (by omega) (fun _ _ => rfl) (fun i hi => putN_whole hi) ?_
               intro w502 q gk
               replace r_t1 := gb_rowIs r_t1 gk n_t1_t2
               replace r_t2 := q
               have Bw2 := Bw1.grown gk (HGS.out _ Bw1) (by intro k hk; cases hk; exact l_t2)
               clear Bw1 gk q))
          exact ret_cell_as _ rfl arrPy r_t2 rfl (by omega) (fun _ _ => rfl) rfl ⟨rfl, Bw2⟩
end Go.Proofs.Ytnpifjimmeehdaa

/- The program's polynomials: split and join: 2 n numbers of a layer. -/
namespace Go.Proofs.Ytnpifjimmeehdaa
open Go.RowKit Go.Deep
set_option linter.unusedSimpArgs false
set_option linter.unusedVariables false

/-- What split makes of the numbers from B on. -/
def splV (F : Nat → Nat) (B n z k : Nat) : Nat := if k < B then F k else if k < B + n then (F k + F (k + n) * z % 3329) % 3329 else (F (k - n) + (3329 - F k * z % 3329 % 3329)) % 3329
/-- What join makes of them. -/
def joiV (F : Nat → Nat) (B n z k : Nat) : Nat := if k < B then F k else if k < B + n then (F k + F (k + n)) % 3329 else (F k + (3329 - F (k - n) % 3329)) % 3329 * z % 3329
theorem splV_start (F : Nat → Nat) (B n z k : Nat) : mix F (splV F B n z) n B 0 k = F k := by
  unfold mix splV
  split
  · rw [if_pos (by omega)]
  · rfl
theorem joiV_start (F : Nat → Nat) (B n z k : Nat) : mix F (joiV F B n z) n B 0 k = F k := by
  unfold mix joiV
  split
  · rw [if_pos (by omega)]
  · rfl
theorem mix_next {F G : Nat → Nat} {n B r J jn l h : Nat} (hJ : J = B + r) (hjn : jn = J + n) (hr : r < n) (hl : G J = l) (hh : G jn = h) :
    ∀ k, k < 256 → mix F G n B (r + 1) k = if k = jn then h else (fun k => if k = J then l else mix F G n B r k) k := by
  intro k _
  show mix F G n B (r + 1) k = if k = jn then h else if k = J then l else mix F G n B r k
  by_cases e2 : k = jn
  · rw [if_pos e2, e2, mix_yes (by omega), hh]
  · rw [if_neg e2]
    by_cases e1 : k = J
    · rw [if_pos e1, e1, mix_yes (by omega), hl]
    · rw [if_neg e1]
      unfold mix
      by_cases e3 : k < B + r ∨ (B + n ≤ k ∧ k < B + n + r)
      · rw [if_pos e3, if_pos (by omega)]
      · rw [if_neg e3, if_neg (by omega)]
set_option maxHeartbeats 4000000 in
set_option maxRecDepth 20000 in
theorem split_any (F : Nat → Nat) (b B n z : Nat) (w : World) (hF : ∀ i, F i < 65536) (hz : z < 65536) (hn : B + 2 * n ≤ 256) (hr : w.rowIs b 26 256 (pyF F)) : Calls Try.prog 39 #[.pointer (some ⟨b, 0, none⟩), .int .i64 (B : Int), .int .i64 (n : Int), .int .u16 (z : Int)] w fun e w' => e = .returned (.tuple #[]) ∧ w'.rowIs b 26 256 (pyF (mix F (splV F B n z) n B n)) ∧ w.grownBy w' (some b) := by
  have HF := Lib.hid hF
  have HR := Lib.hid hr
  clear hF hr
  have gB := World.grownBy.refl w (some b)
  obtain ⟨E, hE⟩ := nat_var (B + n)
  have hwE : IntKind.i64.wrap ((B : Int) + (n : Int)) = (E : Int) := by rw [IntWalk.i64_in _ (by omega)]; omega
  have HE := Lib.hid hE
  clear hE
  have r_b : w.rowIs b 26 256 (pyF (mix F (splV F B n z) n B 0)) := pyF_congr HR.out fun k _ => (splV_start F B n z k).symm
  clear HR
  go_enter Try.func39, Try.ntmps39
  go_wp2
  go_loopw [8] (fun jv wr => ∃ r J : Nat, r ≤ n ∧ Hid (J = B + r) ∧ jv = .int .i64 (J : Int) ∧ wr.rowIs b 26 256 (pyF (mix F (splV F B n z) n B r)) ∧ w.grownBy wr (some b)) (fun jv _ => B + n - (intOf jv).toNat)
  case atStart => exact ⟨0, B, Nat.zero_le _, Lib.hid rfl, rfl, r_b, gB⟩
  case round =>
    clear r_b gB
    obtain ⟨r, J, hr, HJ', rfl, r_b, gB⟩ := hrel
    have HJ := HJ'.out
    have hE := HE.out
    by_cases hrn : r < n
    · have hJI : (J : Int) < (E : Int) := by omega
      obtain ⟨jn, hjn⟩ := nat_var (J + n)
      have hJl : J < 256 := by omega
      have hjnl : jn < 256 := by omega
      have hJI2 : 0 ≤ (J : Int) ∧ (J : Int) < 256 := by omega
      have hjnI : 0 ≤ (jn : Int) ∧ (jn : Int) < 256 := by omega
      have hwjn : IntKind.i64.wrap ((J : Int) + (n : Int)) = (jn : Int) := by rw [IntWalk.i64_in _ (by omega)]; omega
      obtain ⟨x0, hx0⟩ := nat_var (F J)
      obtain ⟨x1, hx1⟩ := nat_var (F jn)
      have hx0l : x0 < 65536 := by rw [hx0]; exact HF.out J
      have hx1l : x1 < 65536 := by rw [hx1]; exact HF.out jn
      have m0 : mix F (splV F B n z) n B r J = x0 := by rw [mix_no (by omega), hx0]
      have m1 : mix F (splV F B n z) n B r jn = x1 := by rw [mix_no (by omega), hx1]
      obtain ⟨p, hp⟩ := nat_var (x1 * z % 3329)
      obtain ⟨l, hl⟩ := nat_var ((x0 + p) % 3329)
      obtain ⟨h, hh⟩ := nat_var ((x0 + (3329 - p % 3329)) % 3329)
      have hpl : p < 65536 := by omega
      have HP := Lib.hid fun w => rprod_any x1 z p w hx1l hz hp
      have HL := Lib.hid fun w => rsum_any x0 p l w hx0l hpl hl
      have HH := Lib.hid fun w => rdiff_any x0 p h w hx0l hpl hh
      have HS2 := mix_next (F := F) HJ hjn hrn (show splV F B n z J = l by unfold splV; rw [if_neg (by omega), if_pos (by omega), ← hjn, ← hx0, ← hx1, ← hp, ← hl]) (show splV F B n z jn = h by unfold splV; rw [if_neg (by omega), if_neg (by omega), show jn - n = J by omega, ← hx0, ← hx1, ← hp, ← hh])
      replace HS2 := Lib.hid HS2
      have HJL := Lib.hid hJl
      have HJN := Lib.hid hjnl
      have HM0 := Lib.hid m0
      have HM1 := Lib.hid m1
      have HRN : Hid (r + 1 ≤ n) := Lib.hid hrn
      obtain ⟨J1, hJ1⟩ := nat_var (J + 1)
      have HJ2 : Hid (J1 = B + (r + 1)) := Lib.hid (by omega)
      have hwJ1 : IntKind.i64.wrap ((J : Int) + 1) = (J1 : Int) := by rw [IntWalk.i64_in _ (by omega)]; omega
      have HMS : Hid (B + n - J1 < B + n - J) := Lib.hid (by omega)
      have HWJ := Lib.hid hwjn
      clear HJ hE hx0 hx1 m0 m1 hp hl hh hJ1 hjn hJl hjnl hx0l hx1l hpl hr hrn
      go_wp2_with (first
        | refine wpList_load_py rfl (.tmp 23) rfl r_b HJN.out rfl HM1.out ?_
        | (have hgo := HP; clear hgo
           go_at_call 44
           refine (HP.out _).mono ?_
           rintro e w5 ⟨rfl, rfl⟩
           clear HP))
      replace r_b := World.rowIs.drew r_b
      replace gB := gb_drew gB 1
      refine le_start [(0, some [22]), (1, some [22]), (2, some [25]), (3, some [25]), (4, some [25]), (5, some [25]), (6, some [22]), (7, some [22]), (8, some [22]), (9, some [22]), (10, some [12]), (11, some [12]), (13, some [25]), (14, some [25]), (15, some [25]), (16, some [25]), (17, some [19]), (18, some [19]), (20, some [25]), (23, some []), (12, none), (19, none), (21, some [22]), (22, none), (24, some [25]), (25, none)] 25 (by kernel_rfl) (by kernel_rfl) (by decide) (by kernel_rfl) (fun d _ _ _ _ h => by cases d <;> exact h) ?_
      refine le_rd 27 (.pointer (some ⟨b, 0, none⟩)) rfl rfl rfl rfl rfl rfl (x_move rfl) ?_
      simp only [Act.put, zA, zB, zC]
      refine le_rd 28 (.int .i64 (J : Int)) rfl rfl rfl rfl rfl rfl (x_move rfl) ?_
      simp only [Act.put, zA, zB, zC]
      refine le_rdA 29 (.pointer (some ⟨b, 0, none⟩)) rfl rfl rfl rfl rfl (fun w => x_move rfl) ?_
      simp only [Act.put, zA, zB, zC]
      refine le_rdA 30 (.int .i64 (J : Int)) rfl rfl rfl rfl rfl (fun w => x_move rfl) ?_
      simp only [Act.put, zA, zB, zC]
      refine le_rdA 31 (.int .i64 (n : Int)) rfl rfl rfl rfl rfl (fun w => x_move rfl) ?_
      simp only [Act.put, zA, zB, zC]
      refine le_rdA 32 (.int .i64 (jn : Int)) rfl rfl rfl rfl rfl (x_add rfl rfl HWJ.out) ?_
      simp only [Act.put, zA, zB, zC]
      refine le_rd 33 (.pointer (some ⟨b, 0, none⟩)) rfl rfl rfl rfl rfl rfl (x_move rfl) ?_
      simp only [Act.put, zA, zB, zC]
      refine le_rd 34 (.int .i64 (J : Int)) rfl rfl rfl rfl rfl rfl (x_move rfl) ?_
      simp only [Act.put, zA, zB, zC]
      refine le_rd 35 (.pointer (some ⟨b, 0, none⟩)) rfl rfl rfl rfl rfl rfl (x_nil rfl _) ?_
      simp only [Act.put, zA, zB, zC]
      refine le_rd 36 (.pointer (some ⟨b, J, none⟩)) rfl rfl rfl rfl rfl rfl (x_ia rfl rfl HJL.out _) ?_
      simp only [Act.put, zA, zB, zC]
      refine le_rd 37 (.int .u16 (x0 : Int)) rfl rfl rfl rfl rfl rfl (x_ld rfl r_b HJL.out HM0.out) ?_
      simp only [Act.put, zA, zB, zC]
      refine le_rd 38 (.int .u16 (p : Int)) rfl rfl rfl rfl rfl rfl (x_move rfl) ?_
      simp only [Act.put, zA, zB, zC]
      refine le_rdA 40 (.pointer (some ⟨b, 0, none⟩)) rfl rfl rfl rfl rfl (fun w => x_move rfl) ?_
      simp only [Act.put, zA, zB, zC]
      refine le_rdA 41 (.int .i64 (J : Int)) rfl rfl rfl rfl rfl (fun w => x_move rfl) ?_
      simp only [Act.put, zA, zB, zC]
      refine le_rdA 42 (.pointer (some ⟨b, 0, none⟩)) rfl rfl rfl rfl rfl (x_nil rfl) ?_
      simp only [Act.put, zA, zB, zC]
      refine le_rdA 43 (.pointer (some ⟨b, J, none⟩)) rfl rfl rfl rfl rfl (x_ia rfl rfl HJL.out) ?_
      simp only [Act.put, zA, zB, zC]
      refine le_rd 44 (.int .u16 (x0 : Int)) rfl rfl rfl rfl rfl rfl (x_ld rfl r_b HJL.out HM0.out) ?_
      simp only [Act.put, zA, zB, zC]
      refine le_rd 45 (.int .u16 (p : Int)) rfl rfl rfl rfl rfl rfl (x_move rfl) ?_
      simp only [Act.put, zA, zB, zC]
      refine le_rdA 47 (.pointer (some ⟨b, 0, none⟩)) rfl rfl rfl rfl rfl (x_nil rfl) ?_
      simp only [Act.put, zA, zB, zC]
      refine le_rdA 49 (.pointer (some ⟨b, 0, none⟩)) rfl rfl rfl rfl rfl (x_nil rfl) ?_
      simp only [Act.put, zA, zB, zC]
      refine le_call 39 (HL.out) rfl rfl rfl rfl Try.func36 (by kernel_rfl) (by kernel_rfl) (ar2 rfl rfl) ?_
      simp only [Act.put, zA, zB, zC]
      refine le_call 46 (HH.out) rfl rfl rfl rfl Try.func37 (by kernel_rfl) (by kernel_rfl) (ar2 rfl rfl) ?_
      simp only [Act.put, zA, zB, zC]
      refine le_rd 48 (.pointer (some ⟨b, J, none⟩)) rfl rfl rfl rfl rfl rfl (x_ia rfl rfl HJL.out _) ?_
      simp only [Act.put, zA, zB, zC]
      refine le_store (fun k => if k = J then l else mix F (splV F B n z) n B r k) rfl rfl rfl rfl rfl rfl r_b HJL.out rfl rfl (fun _ _ => rfl) ?_
      intro w6 r_b2 gk
      replace gB := grownBy_trans gB gk
      clear gk r_b
      refine le_rdA 50 (.pointer (some ⟨b, jn, none⟩)) rfl rfl rfl rfl rfl (x_ia rfl rfl HJN.out) ?_
      simp only [Act.put, zA, zB, zC]
      refine le_storeA (mix F (splV F B n z) n B (r + 1)) rfl rfl rfl rfl rfl r_b2 HJN.out rfl rfl HS2.out ?_
      intro w7 r_b gk
      replace gB := grownBy_trans gB gk
      clear gk r_b2 HS2
      refine le_end ?_
      go_wp2
      go_roundw
      case rel => exact ⟨r + 1, J1, HRN.out, HJ2, rfl, r_b, gB⟩
      case measure => (have := HMS.out; simp [intOf]; try omega)
    · obtain rfl : r = n := by omega
      have hJI : ¬ (J : Int) < (E : Int) := by omega
      clear HJ hE
      go_wp2
      go_end0
      exact ⟨rfl, r_b, gB⟩
set_option maxHeartbeats 4000000 in
set_option maxRecDepth 20000 in
theorem join_any (F : Nat → Nat) (b B n z : Nat) (w : World) (hF : ∀ i, F i < 65536) (hz : z < 65536) (hn : B + 2 * n ≤ 256) (hr : w.rowIs b 26 256 (pyF F)) : Calls Try.prog 43 #[.pointer (some ⟨b, 0, none⟩), .int .i64 (B : Int), .int .i64 (n : Int), .int .u16 (z : Int)] w fun e w' => e = .returned (.tuple #[]) ∧ w'.rowIs b 26 256 (pyF (mix F (joiV F B n z) n B n)) ∧ w.grownBy w' (some b) := by
  have HF := Lib.hid hF
  have HR := Lib.hid hr
  clear hF hr
  have gB := World.grownBy.refl w (some b)
  obtain ⟨E, hE⟩ := nat_var (B + n)
  have hwE : IntKind.i64.wrap ((B : Int) + (n : Int)) = (E : Int) := by rw [IntWalk.i64_in _ (by omega)]; omega
  have HE := Lib.hid hE
  clear hE
  have r_b : w.rowIs b 26 256 (pyF (mix F (joiV F B n z) n B 0)) := pyF_congr HR.out fun k _ => (joiV_start F B n z k).symm
  clear HR
  go_enter Try.func43, Try.ntmps43
  go_wp2
  go_loopw [8] (fun jv wr => ∃ r J : Nat, r ≤ n ∧ Hid (J = B + r) ∧ jv = .int .i64 (J : Int) ∧ wr.rowIs b 26 256 (pyF (mix F (joiV F B n z) n B r)) ∧ w.grownBy wr (some b)) (fun jv _ => B + n - (intOf jv).toNat)
  case atStart => exact ⟨0, B, Nat.zero_le _, Lib.hid rfl, rfl, r_b, gB⟩
  case round =>
    clear r_b gB
    obtain ⟨r, J, hr, HJ', rfl, r_b, gB⟩ := hrel
    have HJ := HJ'.out
    have hE := HE.out
    by_cases hrn : r < n
    · have hJI : (J : Int) < (E : Int) := by omega
      obtain ⟨jn, hjn⟩ := nat_var (J + n)
      have hJl : J < 256 := by omega
      have hjnl : jn < 256 := by omega
      have hJI2 : 0 ≤ (J : Int) ∧ (J : Int) < 256 := by omega
      have hjnI : 0 ≤ (jn : Int) ∧ (jn : Int) < 256 := by omega
      have hwjn : IntKind.i64.wrap ((J : Int) + (n : Int)) = (jn : Int) := by rw [IntWalk.i64_in _ (by omega)]; omega
      obtain ⟨x0, hx0⟩ := nat_var (F J)
      obtain ⟨x1, hx1⟩ := nat_var (F jn)
      have hx0l : x0 < 65536 := by rw [hx0]; exact HF.out J
      have hx1l : x1 < 65536 := by rw [hx1]; exact HF.out jn
      have m0 : mix F (joiV F B n z) n B r J = x0 := by rw [mix_no (by omega), hx0]
      have m1 : mix F (joiV F B n z) n B r jn = x1 := by rw [mix_no (by omega), hx1]
      obtain ⟨p, hp⟩ := nat_var ((x1 + (3329 - x0 % 3329)) % 3329)
      obtain ⟨l, hl⟩ := nat_var ((x0 + x1) % 3329)
      obtain ⟨h, hh⟩ := nat_var (p * z % 3329)
      have hpl : p < 65536 := by omega
      have HP := Lib.hid fun w => rdiff_any x1 x0 p w hx1l hx0l hp
      have HL := Lib.hid fun w => rsum_any x0 x1 l w hx0l hx1l hl
      have HH := Lib.hid fun w => rprod_any p z h w hpl hz hh
      have HS2 := mix_next (F := F) HJ hjn hrn (show joiV F B n z J = l by unfold joiV; rw [if_neg (by omega), if_pos (by omega), ← hjn, ← hx0, ← hx1, ← hl]) (show joiV F B n z jn = h by unfold joiV; rw [if_neg (by omega), if_neg (by omega), show jn - n = J by omega, ← hx0, ← hx1, ← hp, ← hh])
      replace HS2 := Lib.hid HS2
      have HJL := Lib.hid hJl
      have HJN := Lib.hid hjnl
      have HM0 := Lib.hid m0
      have HM1 := Lib.hid m1
      have HRN : Hid (r + 1 ≤ n) := Lib.hid hrn
      obtain ⟨J1, hJ1⟩ := nat_var (J + 1)
      have HJ2 : Hid (J1 = B + (r + 1)) := Lib.hid (by omega)
      have hwJ1 : IntKind.i64.wrap ((J : Int) + 1) = (J1 : Int) := by rw [IntWalk.i64_in _ (by omega)]; omega
      have HMS : Hid (B + n - J1 < B + n - J) := Lib.hid (by omega)
      have HWJ := Lib.hid hwjn
      clear HJ hE hx0 hx1 m0 m1 hp hl hh hJ1 hjn hJl hjnl hx0l hx1l hpl hr hrn
      go_wp2
      replace r_b := World.rowIs.drew r_b
      replace gB := gb_drew gB 1
      refine le_start [(0, some []), (1, some []), (2, some []), (3, some []), (4, some []), (5, some []), (6, some [12]), (7, some []), (8, some []), (9, some []), (10, some []), (11, some [12]), (12, none), (13, some [])] 1000 (by kernel_rfl) (by kernel_rfl) (by decide) (by kernel_rfl) (fun d _ _ _ _ h => by cases d <;> exact h) ?_
      refine le_rdA 18 (.pointer (some ⟨b, 0, none⟩)) rfl rfl rfl rfl rfl (fun w => x_move rfl) ?_
      simp only [Act.put, zA, zB, zC]
      refine le_rdA 19 (.int .i64 (J : Int)) rfl rfl rfl rfl rfl (fun w => x_move rfl) ?_
      simp only [Act.put, zA, zB, zC]
      refine le_rdA 20 (.int .i64 (n : Int)) rfl rfl rfl rfl rfl (fun w => x_move rfl) ?_
      simp only [Act.put, zA, zB, zC]
      refine le_rdA 21 (.int .i64 (jn : Int)) rfl rfl rfl rfl rfl (x_add rfl rfl HWJ.out) ?_
      simp only [Act.put, zA, zB, zC]
      refine le_rdA 22 (.pointer (some ⟨b, 0, none⟩)) rfl rfl rfl rfl rfl (x_nil rfl) ?_
      simp only [Act.put, zA, zB, zC]
      refine le_rdA 23 (.pointer (some ⟨b, jn, none⟩)) rfl rfl rfl rfl rfl (x_ia rfl rfl HJN.out) ?_
      simp only [Act.put, zA, zB, zC]
      refine le_rd 24 (.int .u16 (x1 : Int)) rfl rfl rfl rfl rfl rfl (x_ld rfl r_b HJN.out HM1.out) ?_
      simp only [Act.put, zA, zB, zC]
      refine le_rdA 25 (.pointer (some ⟨b, 0, none⟩)) rfl rfl rfl rfl rfl (fun w => x_move rfl) ?_
      simp only [Act.put, zA, zB, zC]
      refine le_rdA 26 (.int .i64 (J : Int)) rfl rfl rfl rfl rfl (fun w => x_move rfl) ?_
      simp only [Act.put, zA, zB, zC]
      refine le_rdA 27 (.pointer (some ⟨b, 0, none⟩)) rfl rfl rfl rfl rfl (x_nil rfl) ?_
      simp only [Act.put, zA, zB, zC]
      refine le_rdA 28 (.pointer (some ⟨b, J, none⟩)) rfl rfl rfl rfl rfl (x_ia rfl rfl HJL.out) ?_
      simp only [Act.put, zA, zB, zC]
      refine le_rd 29 (.int .u16 (x0 : Int)) rfl rfl rfl rfl rfl rfl (x_ld rfl r_b HJL.out HM0.out) ?_
      simp only [Act.put, zA, zB, zC]
      refine le_call 30 (HP.out) rfl rfl rfl rfl Try.func37 (by kernel_rfl) (by kernel_rfl) (ar2 rfl rfl) ?_
      simp only [Act.put, zA, zB, zC]
      refine le_rdA 9 (.int .u16 (p : Int)) rfl rfl rfl rfl rfl (fun w => x_assign rfl) ?_
      simp only [Act.put, zA, zB, zC]
      refine le_end ?_
      go_wp2
      replace r_b := World.rowIs.drew r_b
      replace gB := gb_drew gB 1
      refine le_start [(0, some [24]), (1, some [24]), (2, some [27]), (3, some [27]), (4, some [27]), (5, some [27]), (6, some [24]), (7, some [24]), (8, some [24]), (9, some [24]), (10, some [18]), (11, some [24]), (12, some [24]), (13, some [24]), (14, some [24]), (15, some [24]), (16, some [24]), (17, some [18]), (19, some [21]), (20, some [21]), (22, some [27]), (25, some []), (18, none), (21, none), (23, some [24]), (24, none), (26, some [27]), (27, none)] 27 (by kernel_rfl) (by kernel_rfl) (by decide) (by kernel_rfl) (fun d _ _ _ _ h => by cases d <;> exact h) ?_
      refine le_rd 31 (.pointer (some ⟨b, 0, none⟩)) rfl rfl rfl rfl rfl rfl (x_move rfl) ?_
      simp only [Act.put, zA, zB, zC]
      refine le_rd 32 (.int .i64 (J : Int)) rfl rfl rfl rfl rfl rfl (x_move rfl) ?_
      simp only [Act.put, zA, zB, zC]
      refine le_rdA 33 (.pointer (some ⟨b, 0, none⟩)) rfl rfl rfl rfl rfl (fun w => x_move rfl) ?_
      simp only [Act.put, zA, zB, zC]
      refine le_rdA 34 (.int .i64 (J : Int)) rfl rfl rfl rfl rfl (fun w => x_move rfl) ?_
      simp only [Act.put, zA, zB, zC]
      refine le_rdA 35 (.int .i64 (n : Int)) rfl rfl rfl rfl rfl (fun w => x_move rfl) ?_
      simp only [Act.put, zA, zB, zC]
      refine le_rdA 36 (.int .i64 (jn : Int)) rfl rfl rfl rfl rfl (x_add rfl rfl HWJ.out) ?_
      simp only [Act.put, zA, zB, zC]
      refine le_rd 37 (.pointer (some ⟨b, 0, none⟩)) rfl rfl rfl rfl rfl rfl (x_move rfl) ?_
      simp only [Act.put, zA, zB, zC]
      refine le_rd 38 (.int .i64 (J : Int)) rfl rfl rfl rfl rfl rfl (x_move rfl) ?_
      simp only [Act.put, zA, zB, zC]
      refine le_rd 39 (.pointer (some ⟨b, 0, none⟩)) rfl rfl rfl rfl rfl rfl (x_nil rfl _) ?_
      simp only [Act.put, zA, zB, zC]
      refine le_rd 40 (.pointer (some ⟨b, J, none⟩)) rfl rfl rfl rfl rfl rfl (x_ia rfl rfl HJL.out _) ?_
      simp only [Act.put, zA, zB, zC]
      refine le_rd 41 (.int .u16 (x0 : Int)) rfl rfl rfl rfl rfl rfl (x_ld rfl r_b HJL.out HM0.out) ?_
      simp only [Act.put, zA, zB, zC]
      refine le_rd 42 (.pointer (some ⟨b, 0, none⟩)) rfl rfl rfl rfl rfl rfl (x_move rfl) ?_
      simp only [Act.put, zA, zB, zC]
      refine le_rd 43 (.int .i64 (J : Int)) rfl rfl rfl rfl rfl rfl (x_move rfl) ?_
      simp only [Act.put, zA, zB, zC]
      refine le_rd 44 (.int .i64 (n : Int)) rfl rfl rfl rfl rfl rfl (x_move rfl) ?_
      simp only [Act.put, zA, zB, zC]
      refine le_rd 45 (.int .i64 (jn : Int)) rfl rfl rfl rfl rfl rfl (x_add rfl rfl HWJ.out _) ?_
      simp only [Act.put, zA, zB, zC]
      refine le_rd 46 (.pointer (some ⟨b, 0, none⟩)) rfl rfl rfl rfl rfl rfl (x_nil rfl _) ?_
      simp only [Act.put, zA, zB, zC]
      refine le_rd 47 (.pointer (some ⟨b, jn, none⟩)) rfl rfl rfl rfl rfl rfl (x_ia rfl rfl HJN.out _) ?_
      simp only [Act.put, zA, zB, zC]
      refine le_rd 48 (.int .u16 (x1 : Int)) rfl rfl rfl rfl rfl rfl (x_ld rfl r_b HJN.out HM1.out) ?_
      simp only [Act.put, zA, zB, zC]
      refine le_rd 50 (.int .u16 (p : Int)) rfl rfl rfl rfl rfl rfl (x_move rfl) ?_
      simp only [Act.put, zA, zB, zC]
      refine le_rd 51 (.int .u16 (z : Int)) rfl rfl rfl rfl rfl rfl (x_move rfl) ?_
      simp only [Act.put, zA, zB, zC]
      refine le_rdA 53 (.pointer (some ⟨b, 0, none⟩)) rfl rfl rfl rfl rfl (x_nil rfl) ?_
      simp only [Act.put, zA, zB, zC]
      refine le_rdA 55 (.pointer (some ⟨b, 0, none⟩)) rfl rfl rfl rfl rfl (x_nil rfl) ?_
      simp only [Act.put, zA, zB, zC]
      refine le_call 49 (HL.out) rfl rfl rfl rfl Try.func36 (by kernel_rfl) (by kernel_rfl) (ar2 rfl rfl) ?_
      simp only [Act.put, zA, zB, zC]
      refine le_call 52 (HH.out) rfl rfl rfl rfl Try.func44 (by kernel_rfl) (by kernel_rfl) (ar2 rfl rfl) ?_
      simp only [Act.put, zA, zB, zC]
      refine le_rd 54 (.pointer (some ⟨b, J, none⟩)) rfl rfl rfl rfl rfl rfl (x_ia rfl rfl HJL.out _) ?_
      simp only [Act.put, zA, zB, zC]
      refine le_store (fun k => if k = J then l else mix F (joiV F B n z) n B r k) rfl rfl rfl rfl rfl rfl r_b HJL.out rfl rfl (fun _ _ => rfl) ?_
      intro w6 r_b2 gk
      replace gB := grownBy_trans gB gk
      clear gk r_b
      refine le_rdA 56 (.pointer (some ⟨b, jn, none⟩)) rfl rfl rfl rfl rfl (x_ia rfl rfl HJN.out) ?_
      simp only [Act.put, zA, zB, zC]
      refine le_storeA (mix F (joiV F B n z) n B (r + 1)) rfl rfl rfl rfl rfl r_b2 HJN.out rfl rfl HS2.out ?_
      intro w7 r_b gk
      replace gB := grownBy_trans gB gk
      clear gk r_b2 HS2
      refine le_end ?_
      go_wp2
      go_roundw
      case rel => exact ⟨r + 1, J1, HRN.out, HJ2, rfl, r_b, gB⟩
      case measure => (have := HMS.out; simp [intOf]; try omega)
    · obtain rfl : r = n := by omega
      have hJI : ¬ (J : Int) < (E : Int) := by omega
      clear HJ hE
      go_wp2
      go_end0
      exact ⟨rfl, r_b, gB⟩
end Go.Proofs.Ytnpifjimmeehdaa

/- The program's polynomials: the transform, and the way back. -/
namespace Go.Proofs.Ytnpifjimmeehdaa
open Go.RowKit Go.Deep
set_option linter.unusedSimpArgs false
set_option linter.unusedVariables false

theorem spl_mix {Fm G : Nat → Nat} {n B z : Nat} (hlo : ∀ r, r < n → G (B + r) = (Fm (B + r) % 3329 + z * Fm (B + r + n) % 3329) % 3329) (hhi : ∀ r, r < n → G (B + r + n) = (Fm (B + r) % 3329 + 3329 - z * Fm (B + r + n) % 3329) % 3329) (k : Nat) :
    mix (mix Fm G n B 0) (splV (mix Fm G n B 0) B n z) n B n k = mix Fm G n (B + 2 * n) 0 k := by
  by_cases h1 : k < B
  · rw [mix_yes (by omega), mix_yes (by omega), splV, if_pos h1, mix_yes (by omega)]
  by_cases h2 : k < B + n
  · obtain ⟨r, rfl⟩ : ∃ r, k = B + r := ⟨k - B, by omega⟩
    rw [mix_yes (by omega), mix_yes (by omega), splV, if_neg h1, if_pos h2, mix_no (by omega), mix_no (by omega), hlo r (by omega), Nat.mul_comm z]
    omega
  by_cases h3 : k < B + 2 * n
  · obtain ⟨r, rfl⟩ : ∃ r, k = B + r + n := ⟨k - B - n, by omega⟩
    rw [mix_yes (by omega), mix_yes (by omega), splV, if_neg h1, if_neg h2, Nat.add_sub_cancel, mix_no (by omega), mix_no (by omega), hhi r (by omega), Nat.mul_comm z]
    omega
  · rw [mix_no (by omega), mix_no (by omega), mix_no (by omega)]
theorem joi_hi (a b z : Nat) : (a + (3329 - b % 3329)) % 3329 * z % 3329 = z * (a % 3329 + 3329 - b % 3329) % 3329 := by
  rw [Nat.mod_mul_mod, Nat.mul_comm _ z, ← Nat.mul_mod_mod, ← Nat.mul_mod_mod z (a % 3329 + 3329 - b % 3329)]
  congr 2
  omega
theorem joi_mix {Fm G : Nat → Nat} {n B z : Nat} (hlo : ∀ r, r < n → G (B + r) = (Fm (B + r) % 3329 + Fm (B + r + n) % 3329) % 3329) (hhi : ∀ r, r < n → G (B + r + n) = z * (Fm (B + r + n) % 3329 + 3329 - Fm (B + r) % 3329) % 3329) (k : Nat) :
    mix (mix Fm G n B 0) (joiV (mix Fm G n B 0) B n z) n B n k = mix Fm G n (B + 2 * n) 0 k := by
  by_cases h1 : k < B
  · rw [mix_yes (by omega), mix_yes (by omega), joiV, if_pos h1, mix_yes (by omega)]
  by_cases h2 : k < B + n
  · obtain ⟨r, rfl⟩ : ∃ r, k = B + r := ⟨k - B, by omega⟩
    rw [mix_yes (by omega), mix_yes (by omega), joiV, if_neg h1, if_pos h2, mix_no (by omega), mix_no (by omega), hlo r (by omega)]
    omega
  by_cases h3 : k < B + 2 * n
  · obtain ⟨r, rfl⟩ : ∃ r, k = B + r + n := ⟨k - B - n, by omega⟩
    rw [mix_yes (by omega), mix_yes (by omega), joiV, if_neg h1, if_neg h2, Nat.add_sub_cancel, mix_no (by omega), mix_no (by omega), hhi r (by omega), joi_hi]
  · rw [mix_no (by omega), mix_no (by omega), mix_no (by omega)]
theorem mix_lt {Fm G : Nat → Nat} {n B r : Nat} (h1 : ∀ i, Fm i < 65536) (h2 : ∀ i, G i < 65536) (i : Nat) : mix Fm G n B r i < 65536 := by
  unfold mix
  split
  · exact h2 i
  · exact h1 i
set_option maxHeartbeats 4000000 in
set_option maxRecDepth 20000 in
theorem rNTT_any (f : Nat → Nat) (w : World) (hf : ∀ i, f i < 65536) : Calls Try.prog 18 #[.agg (arrOf 256 (pyF f))] w fun e w' => e = .returned (.agg (arrOf 256 (pyF (nttN f)))) ∧ Below w.heap.size w w' := by
  have Bw0 := Below.refl w.heap.size w
  have HGS : Hid (∀ wq : World, Below w.heap.size w wq → w.heap.size ≤ wq.heap.size) := Lib.hid fun wq h => h.size
  have Hf := Lib.hid (stg_lt hf)
  clear hf
  go_enter Try.func18, Try.ntmps18
  go_wp2_with (first
    | (have hgo := Bw0; clear hgo
       refine wpList_box_row rfl 26 (.tmp 0) rfl 256 (pyF f) rfl ?_
       intro b_t1 w1 lk r_t1 kk
       have l_t1 := zrl HGS Bw0 lk
       have Bw1 := zbt HGS Bw0 kk
       clear Bw0 kk lk)
    | (have hgo := Bw1; clear hgo
       refine wpList_alloc_row rfl 26 rfl 256 (pyF fun _ => 0) zeroP ?_
       intro b_t2 w2 lk r_t2 kk
       have n_t1_t2 := zrn r_t1 lk
       have l_t2 := zrl HGS Bw1 lk
       replace r_t1 := zrb r_t1 kk
       have Bw2 := zbt HGS Bw1 kk
       clear Bw1 kk lk)
    | (have hgo := Bw2; clear hgo
       go_at_call 38
       refine (powers_any _).mono ?_
       rintro e w3 ⟨rfl, kk⟩
       replace r_t1 := zrb r_t1 kk
       replace r_t2 := zrb r_t2 kk
       have Bw3 := zbt HGS Bw2 kk
       clear Bw2 kk)
    | (have hgo := Bw3; clear hgo
       refine wpList_alloc_row rfl 25 rfl 256 (pyF fun _ => 0) zeroW ?_
       intro b_t3 w4 lk r_t3 kk
       have n_t1_t3 := zrn r_t1 lk
       have n_t2_t3 := zrn r_t2 lk
       have l_t3 := zrl HGS Bw3 lk
       replace r_t1 := zrb r_t1 kk
       replace r_t2 := zrb r_t2 kk
       have Bw4 := zbt HGS Bw3 kk
       clear Bw3 kk lk)
    | (have hgo := Bw4; clear hgo
       refine wpList_store_as rfl 25 (.tmp 3) (.tmp 7) rfl 256 (pyF (fun k => 17 ^ k % 3329)) arrW r_t3 rfl rfl (by omega) (fun _ _ => rfl) (fun i hi => putN_whole hi) ?_
       intro w5 q gk
       replace r_t1 := gb_rowIs r_t1 gk n_t1_t3
       replace r_t2 := gb_rowIs r_t2 gk n_t2_t3
       replace r_t3 := q
       have Bw5 := zbg HGS Bw4 gk l_t3
       clear Bw4 gk q))
  go_loopw [4, 5] (fun kv nv wr => ∃ m M n : Nat, m ≤ 7 ∧ Hid (M = 2 ^ m) ∧ Hid (M * n = 128) ∧ kv = .int .i64 (M : Int) ∧ nv = .int .i64 (n : Int) ∧ wr.rowIs b_t1 26 256 (pyF (stg f m)) ∧ wr.rowIs b_t2 26 256 (pyF fun _ => 0) ∧ wr.rowIs b_t3 25 256 (pyF fun k => 17 ^ k % 3329) ∧ Below w.heap.size w wr) (fun _ nv _ => (intOf nv).toNat)
  case atStart => exact ⟨0, 1, 128, Nat.zero_le _, Lib.hid rfl, Lib.hid rfl, rfl, rfl, r_t1, r_t2, r_t3, Bw5⟩
  case round =>
    clear r_t1 r_t2 r_t3 Bw5
    obtain ⟨m, M, n, hm, HM, HMN, rfl, rfl, r_t1, r_t2, r_t3, Bw⟩ := hrel
    by_cases h2 : 2 ≤ n
    · have h2I : (2 : Int) ≤ (n : Int) := by omega
      obtain ⟨hm7, hev, hM64, hM1, hn128⟩ := two_step n m M HM.out HMN.out h2
      obtain ⟨G, hG⟩ : ∃ G, G = stg f (m + 1) := ⟨_, rfl⟩
      obtain ⟨Fm, hF⟩ : ∃ F, F = stg f m := ⟨_, rfl⟩
      have HG := Lib.hid hG
      have HFl : Hid (∀ i, Fm i < 65536) := Lib.hid fun i => by rw [hF]; exact Hf.out m i
      have HGl : Hid (∀ i, G i < 65536) := Lib.hid fun i => by rw [hG]; exact Hf.out (m + 1) i
      have hdv : 128 / n = M := Nat.div_eq_of_eq_mul_left (by omega) HMN.out.symm
      have HLO : Hid (∀ s r, r < n → G (s * (2 * n) + r) = (Fm (s * (2 * n) + r) % 3329 + Zv (M + s) * Fm (s * (2 * n) + r + n) % 3329) % 3329) := Lib.hid fun s r hr => by
        rw [hG, hF]
        show layV (128 / 2 ^ m) (stg f m) _ = _
        rw [← HM.out, show 128 / M = n from Nat.div_eq_of_eq_mul_left (by omega) (by rw [Nat.mul_comm]; exact HMN.out.symm), layV_lo n s r hr, hdv]
      have HHI : Hid (∀ s r, r < n → G (s * (2 * n) + r + n) = (Fm (s * (2 * n) + r) % 3329 + 3329 - Zv (M + s) * Fm (s * (2 * n) + r + n) % 3329) % 3329) := Lib.hid fun s r hr => by
        rw [hG, hF]
        show layV (128 / 2 ^ m) (stg f m) _ = _
        rw [← HM.out, show 128 / M = n from Nat.div_eq_of_eq_mul_left (by omega) (by rw [Nat.mul_comm]; exact HMN.out.symm), layV_hi n s r hr, hdv]
      rw [← hF] at r_t1
      have r_0 : wr.rowIs b_t1 26 256 (pyF (mix Fm G n 0 0)) := pyF_congr r_t1 fun k _ => (mix_no (by omega)).symm
      obtain ⟨nn, hnn⟩ := nat_var (2 * n)
      have hwnn : IntKind.i64.wrap (2 * (n : Int)) = (nn : Int) := by rw [IntWalk.i64_in _ (by omega)]; omega
      have HNN := Lib.hid hnn
      have HEV := Lib.hid hev
      have HM7 := Lib.hid hm7
      have hnq : IntKind.i64.wrap ((n : Int).tdiv 2) = ((n / 2 : Nat) : Int) := by rw [Int.tdiv_eq_ediv_of_nonneg (by omega), IntWalk.i64_in _ (by omega)]; omega
      have hnq2 : IntKind.i64.wrap ((n : Int) / 2) = ((n / 2 : Nat) : Int) := by rw [IntWalk.i64_in _ (by omega)]; omega
      obtain ⟨n', hn'⟩ := nat_var (n / 2)
      rw [← hn'] at hnq hnq2
      have HN2 := Lib.hid hn'
      clear hG hF hdv r_t1 hev hm7 hn' hnn
      go_wp2
      go_loopw [4, 6] (fun kv sv wr => ∃ s K B : Nat, s ≤ M ∧ Hid (K = M + s) ∧ Hid (B = s * (2 * n)) ∧ kv = .int .i64 (K : Int) ∧ sv = .int .i64 (B : Int) ∧ wr.rowIs b_t1 26 256 (pyF (mix Fm G n B 0)) ∧ wr.rowIs b_t2 26 256 (pyF fun _ => 0) ∧ wr.rowIs b_t3 25 256 (pyF fun k => 17 ^ k % 3329) ∧ Below w.heap.size w wr) (fun _ sv _ => 256 - (intOf sv).toNat)
      case atStart => exact ⟨0, M, 0, Nat.zero_le _, Lib.hid rfl, Lib.hid (Nat.zero_mul _).symm, rfl, rfl, r_0, r_t2, r_t3, Bw⟩
      case round =>
        clear r_0 r_t2 r_t3 Bw
        obtain ⟨s, K, B, hs, HK, HB, rfl, rfl, r_t1, r_t2, r_t3, Bw⟩ := hrel
        by_cases hB : B < 256
        · have hBI : (B : Int) < 256 := by omega
          have hsM : s < M := by
            rcases Nat.lt_or_ge s M with h3 | h3
            · exact h3
            · have h4 : s = M := by omega
              have h5 := HB.out
              have h6 := HMN.out
              rw [h4, Nat.mul_left_comm, h6] at h5
              omega
          have hBn : B + 2 * n ≤ 256 := by rw [HB.out]; exact cut_lt HMN.out hsM
          have hKl : K < 128 := by rw [HK.out]; omega
          obtain ⟨e0, he0⟩ := nat_var (rev7 K)
          have he0l : e0 < 256 := by rw [he0]; exact Nat.lt_trans (rev7_lt K) (by decide)
          obtain ⟨z, hz⟩ := nat_var (17 ^ e0 % 3329)
          have HZV : Hid (Zv (M + s) = z) := Lib.hid (by rw [← HK.out, hz, he0]; rfl)
          have hK1 : IntKind.i64.wrap ((K : Int) + 1) = ((K + 1 : Nat) : Int) := by rw [IntWalk.i64_in _ (by omega)]; omega
          obtain ⟨K1, hK1'⟩ := nat_var (K + 1)
          rw [← hK1'] at hK1
          have HKK : Hid (K1 = M + (s + 1)) := Lib.hid (by rw [hK1', HK.out, Nat.add_assoc])
          have hzl : z < 65536 := by rw [hz]; exact Nat.lt_trans (Nat.mod_lt _ (by decide)) (by decide)
          have HRV := Lib.hid fun w => turned_any K e0 w hKl he0
          have he0I : 0 ≤ (e0 : Int) ∧ (e0 : Int) < 256 := by omega
          have HE0 := Lib.hid he0l
          have HZZ : Hid ((fun k => 17 ^ k % 3329) e0 = z) := Lib.hid hz.symm
          have HSP := Lib.hid fun (w : World) (h : w.rowIs b_t1 26 256 (pyF (mix Fm G n B 0))) => split_any (mix Fm G n B 0) b_t1 B n z w (mix_lt HFl.out HGl.out) hzl hBn h
          obtain ⟨B2, hB2⟩ := nat_var (B + nn)
          have hwB2 : IntKind.i64.wrap ((B : Int) + (nn : Int)) = (B2 : Int) := by have := HNN.out; rw [IntWalk.i64_in _ (by omega)]; omega
          have hB3 : B2 = B + 2 * n := by rw [hB2, HNN.out]
          have HPS : Hid (∀ k, mix (mix Fm G n B 0) (splV (mix Fm G n B 0) B n z) n B n k = mix Fm G n B2 0 k) := Lib.hid (by rw [hB3]; exact spl_mix (Fm := Fm) (G := G) (n := n) (B := B) (z := z) (fun r hr => by have h := HLO.out s r hr; rw [← HB.out] at h; rw [HZV.out] at h; exact h) (fun r hr => by have h := HHI.out s r hr; rw [HZV.out, ← HB.out] at h; exact h))
          have HSB : Hid (B2 = (s + 1) * (2 * n)) := Lib.hid (by rw [hB3, Nat.add_mul, Nat.one_mul, ← HB.out])
          have HMS : Hid (256 - B2 < 256 - B) := Lib.hid (by omega)
          have HSM := Lib.hid hsM
          clear he0 he0l hz hKl hK1' hB2 hB3 hsM hBn hzl
          go_wp2_with (first
            | (have hgo := HRV; clear hgo
               go_at_call 40
               refine (HRV.out _).mono ?_
               rintro e w5 ⟨rfl, rfl⟩
               clear HRV)
            | (have hgo := HZZ; clear hgo
               refine wpList_load_py rfl (.tmp 22) rfl r_t3 HE0.out rfl HZZ.out ?_
               clear HZZ)
            | (have hgo := HSP; clear hgo
               go_at_call 39
               refine (HSP.out _ r_t1).mono ?_
               rintro e w6 ⟨rfl, q6, g6⟩
               replace r_t2 := gb_rowIs r_t2 g6 (Ne.symm n_t1_t2)
               replace r_t3 := gb_rowIs r_t3 g6 (Ne.symm n_t1_t3)
               replace r_t1 : w6.rowIs b_t1 26 256 (pyF (mix Fm G n B2 0)) := pyF_congr q6 fun k _ => HPS.out k
               have Bw3 := Bw.grown g6 (HGS.out _ Bw) (by intro k hk; cases hk; exact l_t1)
               clear Bw g6 q6 HSP))
          go_roundw
          case rel => exact ⟨s + 1, K1, B2, HSM.out, HKK, HSB, rfl, rfl, r_t1, r_t2, r_t3, Bw3⟩
          case measure => (have := HMS.out; simp [intOf]; try omega)
        · have hBI : ¬ (B : Int) < 256 := by omega
          obtain ⟨hsM, hB256⟩ := cut_ge HMN.out HB.out hs hB
          have r_n : wr.rowIs b_t1 26 256 (pyF (stg f (m + 1))) := pyF_congr r_t1 fun k hk => by rw [mix_yes (by omega), HG.out]
          have HK2 : Hid (K = 2 ^ (m + 1)) := Lib.hid (by rw [HK.out, hsM, Nat.pow_succ, ← HM.out]; omega)
          have HKN : Hid (K * n' = 128) := Lib.hid (by
            have h3 := HMN.out
            have h4 := HEV.out
            have h5 := HN2.out
            rw [HK.out, hsM, h5, ← Nat.two_mul, Nat.mul_assoc, Nat.mul_left_comm, ← h4]
            exact h3)
          have HLT : Hid (n' < n) := Lib.hid (by have := HN2.out; omega)
          clear r_t1 hsM hB256
          go_wp2
          go_roundw
          case rel => exact ⟨m + 1, K, n', HM7.out, HK2, HKN, rfl, rfl, r_n, r_t2, r_t3, Bw⟩
          case measure => (have := HLT.out; simp [intOf]; try omega)
    · have h2I : ¬ (2 : Int) ≤ (n : Int) := by omega
      obtain rfl : m = 7 := two_end n m M HM.out hm HMN.out h2
      have Bw0 := Bw
      clear Bw
      go_wp2_with (first
        | (have hgo := Bw0; clear hgo
           refine wpList_load_as rfl 26 (.tmp 1) rfl 256 (pyF (stg f 7)) arrP r_t1 rfl (by omega) (fun i hi => by rw [Nat.zero_add]) ?_
           have Bw1 := Bw0
           clear Bw0)
        | (have hgo := Bw1; clear hgo
           refine wpList_store_as rfl 26 (.tmp 2) (.tmp 27) rfl 256 (pyF (stg f 7)) arrP r_t2 rfl rfl (by omega) (fun _ _ => rfl) (fun i hi => putN_whole hi) ?_
           intro w502 q gk
           replace r_t1 := gb_rowIs r_t1 gk n_t1_t2
           replace r_t2 := q
           have Bw2 := zbg HGS Bw1 gk l_t2
           clear Bw1 gk q))
      exact ret_cell_as _ rfl arrP r_t2 rfl (by omega) (fun _ _ => rfl) rfl ⟨rfl, Bw2⟩
theorem inv_big (n m : Nat) (hn : n = 2 ^ (m + 1)) (h2 : ¬ n ≤ 128) : 256 ≤ n := by
  rcases Nat.lt_or_ge m 7 with h | h
  · have := Nat.pow_le_pow_right (show 0 < 2 by decide) (show m + 1 ≤ 7 by omega)
    omega
  · have := Nat.pow_le_pow_right (show 0 < 2 by decide) (show 8 ≤ m + 1 by omega)
    omega
set_option maxHeartbeats 4000000 in
set_option maxRecDepth 20000 in
theorem rInverse_any (f : Nat → Nat) (w : World) (hf : ∀ i, f i < 65536) : Calls Try.prog 20 #[.agg (arrOf 256 (pyF f))] w fun e w' => e = .returned (.agg (arrOf 256 (pyF (invN f)))) ∧ Below w.heap.size w w' := by
  have Bw0 := Below.refl w.heap.size w
  have HGS : Hid (∀ wq : World, Below w.heap.size w wq → w.heap.size ≤ wq.heap.size) := Lib.hid fun wq h => h.size
  have Hf := Lib.hid (istg_lt hf)
  clear hf
  go_enter Try.func20, Try.ntmps20
  go_wp2_with (first
    | (have hgo := Bw0; clear hgo
       refine wpList_box_row rfl 26 (.tmp 0) rfl 256 (pyF f) rfl ?_
       intro b_t1 w1 lk r_t1 kk
       have l_t1 := zrl HGS Bw0 lk
       have Bw1 := zbt HGS Bw0 kk
       clear Bw0 kk lk)
    | (have hgo := Bw1; clear hgo
       refine wpList_alloc_row rfl 26 rfl 256 (pyF fun _ => 0) zeroP ?_
       intro b_t2 w2 lk r_t2 kk
       have n_t1_t2 := zrn r_t1 lk
       have l_t2 := zrl HGS Bw1 lk
       replace r_t1 := zrb r_t1 kk
       have Bw2 := zbt HGS Bw1 kk
       clear Bw1 kk lk)
    | (have hgo := Bw2; clear hgo
       go_at_call 38
       refine (powers_any _).mono ?_
       rintro e w3 ⟨rfl, kk⟩
       replace r_t1 := zrb r_t1 kk
       replace r_t2 := zrb r_t2 kk
       have Bw3 := zbt HGS Bw2 kk
       clear Bw2 kk)
    | (have hgo := Bw3; clear hgo
       refine wpList_alloc_row rfl 25 rfl 256 (pyF fun _ => 0) zeroW ?_
       intro b_t3 w4 lk r_t3 kk
       have n_t1_t3 := zrn r_t1 lk
       have n_t2_t3 := zrn r_t2 lk
       have l_t3 := zrl HGS Bw3 lk
       replace r_t1 := zrb r_t1 kk
       replace r_t2 := zrb r_t2 kk
       have Bw4 := zbt HGS Bw3 kk
       clear Bw3 kk lk)
    | (have hgo := Bw4; clear hgo
       refine wpList_store_as rfl 25 (.tmp 3) (.tmp 9) rfl 256 (pyF (fun k => 17 ^ k % 3329)) arrW r_t3 rfl rfl (by omega) (fun _ _ => rfl) (fun i hi => putN_whole hi) ?_
       intro w5 q gk
       replace r_t1 := gb_rowIs r_t1 gk n_t1_t3
       replace r_t2 := gb_rowIs r_t2 gk n_t2_t3
       replace r_t3 := q
       have Bw5 := zbg HGS Bw4 gk l_t3
       clear Bw4 gk q))
  go_loopw [4, 5] (fun kv nv wr => ∃ m K n : Nat, m ≤ 7 ∧ Hid (n = 2 ^ (m + 1)) ∧ Hid (n * (K + 1) = 256) ∧ kv = .int .i64 (K : Int) ∧ nv = .int .i64 (n : Int) ∧ wr.rowIs b_t1 26 256 (pyF (istg f m)) ∧ wr.rowIs b_t2 26 256 (pyF fun _ => 0) ∧ wr.rowIs b_t3 25 256 (pyF fun k => 17 ^ k % 3329) ∧ Below w.heap.size w wr) (fun _ nv _ => 300 - (intOf nv).toNat)
  case atStart => exact ⟨0, 127, 2, Nat.zero_le _, Lib.hid rfl, Lib.hid rfl, rfl, rfl, r_t1, r_t2, r_t3, Bw5⟩
  case round =>
    clear r_t1 r_t2 r_t3 Bw5
    obtain ⟨m, K0, n, hm, HN, HNK, rfl, rfl, r_t1, r_t2, r_t3, Bw⟩ := hrel
    by_cases h2 : n ≤ 128
    · obtain ⟨hm7, hn2, M, hMN, hKM, hM64, hM1, hdv⟩ := inv_m n m K0 HN.out hm HNK.out h2
      have h2I : (n : Int) < 256 := by omega
      have HMN := Lib.hid hMN
      obtain ⟨G, hG⟩ : ∃ G, G = istg f (m + 1) := ⟨_, rfl⟩
      obtain ⟨Fm, hF⟩ : ∃ F, F = istg f m := ⟨_, rfl⟩
      have HG := Lib.hid hG
      have HFl : Hid (∀ i, Fm i < 65536) := Lib.hid fun i => by rw [hF]; exact Hf.out m i
      have HGl : Hid (∀ i, G i < 65536) := Lib.hid fun i => by rw [hG]; exact Hf.out (m + 1) i
      have HLO : Hid (∀ s r, r < n → G (s * (2 * n) + r) = (Fm (s * (2 * n) + r) % 3329 + Fm (s * (2 * n) + r + n) % 3329) % 3329) := Lib.hid fun s r hr => by
        rw [hG, hF]
        show ilyV (2 ^ (m + 1)) (istg f m) _ = _
        rw [← HN.out, ilyV_lo n s r hr]
      have HHI : Hid (∀ s r, r < n → G (s * (2 * n) + r + n) = Zv (2 * M - 1 - s) * (Fm (s * (2 * n) + r + n) % 3329 + 3329 - Fm (s * (2 * n) + r) % 3329) % 3329) := Lib.hid fun s r hr => by
        rw [hG, hF]
        show ilyV (2 ^ (m + 1)) (istg f m) _ = _
        rw [← HN.out, ilyV_hi n s r hr, hdv]
      rw [← hF] at r_t1
      have r_0 : wr.rowIs b_t1 26 256 (pyF (mix Fm G n 0 0)) := pyF_congr r_t1 fun k _ => (mix_no (by omega)).symm
      obtain ⟨nn, hnn⟩ := nat_var (2 * n)
      have hwnn : IntKind.i64.wrap (2 * (n : Int)) = (nn : Int) := by rw [IntWalk.i64_in _ (by omega)]; omega
      have hwnn2 : IntKind.i64.wrap ((n : Int) * 2) = (nn : Int) := by rw [IntWalk.i64_in _ (by omega)]; omega
      have HNN := Lib.hid hnn
      have HM7 := Lib.hid hm7
      have HK0 : Hid (K0 + 0 + 1 = 2 * M) := Lib.hid hKM
      clear hG hF hdv r_t1 hm7 hnn hMN hKM
      go_wp2
      go_loopw [4, 6] (fun kv sv wr => ∃ s K B : Nat, s ≤ M ∧ Hid (K + s + 1 = 2 * M) ∧ Hid (B = s * (2 * n)) ∧ kv = .int .i64 (K : Int) ∧ sv = .int .i64 (B : Int) ∧ wr.rowIs b_t1 26 256 (pyF (mix Fm G n B 0)) ∧ wr.rowIs b_t2 26 256 (pyF fun _ => 0) ∧ wr.rowIs b_t3 25 256 (pyF fun k => 17 ^ k % 3329) ∧ Below w.heap.size w wr) (fun _ sv _ => 256 - (intOf sv).toNat)
      case atStart => exact ⟨0, K0, 0, Nat.zero_le _, HK0, Lib.hid (Nat.zero_mul _).symm, rfl, rfl, r_0, r_t2, r_t3, Bw⟩
      case round =>
        clear r_0 r_t2 r_t3 Bw
        obtain ⟨s, K, B, hs, HK, HB, rfl, rfl, r_t1, r_t2, r_t3, Bw⟩ := hrel
        by_cases hB : B < 256
        · have hBI : (B : Int) < 256 := by omega
          have hsM : s < M := by
            rcases Nat.lt_or_ge s M with h3 | h3
            · exact h3
            · have h4 : s = M := by omega
              have h5 := HB.out
              have h6 := HMN.out
              rw [h4, Nat.mul_left_comm, h6] at h5
              omega
          have hBn : B + 2 * n ≤ 256 := by rw [HB.out]; exact cut_lt HMN.out hsM
          have hKl : K < 128 := by have := HK.out; omega
          have hK1l : 1 ≤ K := by have := HK.out; omega
          obtain ⟨e0, he0⟩ := nat_var (rev7 K)
          have he0l : e0 < 256 := by rw [he0]; exact Nat.lt_trans (rev7_lt K) (by decide)
          obtain ⟨z, hz⟩ := nat_var (17 ^ e0 % 3329)
          have HZV : Hid (Zv (2 * M - 1 - s) = z) := Lib.hid (by rw [show 2 * M - 1 - s = K by have := HK.out; omega, hz, he0]; rfl)
          have hK1 : IntKind.i64.wrap ((K : Int) - 1) = ((K - 1 : Nat) : Int) := by rw [IntWalk.i64_in _ (by omega)]; omega
          obtain ⟨K1, hK1'⟩ := nat_var (K - 1)
          rw [← hK1'] at hK1
          have HKK : Hid (K1 + (s + 1) + 1 = 2 * M) := Lib.hid (by have := HK.out; omega)
          clear hK1l
          have hzl : z < 65536 := by rw [hz]; exact Nat.lt_trans (Nat.mod_lt _ (by decide)) (by decide)
          have HRV := Lib.hid fun w => turned_any K e0 w hKl he0
          have he0I : 0 ≤ (e0 : Int) ∧ (e0 : Int) < 256 := by omega
          have HE0 := Lib.hid he0l
          have HZZ : Hid ((fun k => 17 ^ k % 3329) e0 = z) := Lib.hid hz.symm
          have HSP := Lib.hid fun (w : World) (h : w.rowIs b_t1 26 256 (pyF (mix Fm G n B 0))) => join_any (mix Fm G n B 0) b_t1 B n z w (mix_lt HFl.out HGl.out) hzl hBn h
          obtain ⟨B2, hB2⟩ := nat_var (B + nn)
          have hwB2 : IntKind.i64.wrap ((B : Int) + (nn : Int)) = (B2 : Int) := by have := HNN.out; rw [IntWalk.i64_in _ (by omega)]; omega
          have hB3 : B2 = B + 2 * n := by rw [hB2, HNN.out]
          have HPS : Hid (∀ k, mix (mix Fm G n B 0) (joiV (mix Fm G n B 0) B n z) n B n k = mix Fm G n B2 0 k) := Lib.hid (by rw [hB3]; exact joi_mix (Fm := Fm) (G := G) (n := n) (B := B) (z := z) (fun r hr => by have h := HLO.out s r hr; rw [← HB.out] at h; exact h) (fun r hr => by have h := HHI.out s r hr; rw [HZV.out, ← HB.out] at h; exact h))
          have HSB : Hid (B2 = (s + 1) * (2 * n)) := Lib.hid (by rw [hB3, Nat.add_mul, Nat.one_mul, ← HB.out])
          have HMS : Hid (256 - B2 < 256 - B) := Lib.hid (by omega)
          have HSM := Lib.hid hsM
          clear he0 he0l hz hKl hK1' hB2 hB3 hsM hBn hzl
          go_wp2_with (first
            | (have hgo := HRV; clear hgo
               go_at_call 40
               refine (HRV.out _).mono ?_
               rintro e w5 ⟨rfl, rfl⟩
               clear HRV)
            | (have hgo := HZZ; clear hgo
               refine wpList_load_py rfl (.tmp 24) rfl r_t3 HE0.out rfl HZZ.out ?_
               clear HZZ)
            | (have hgo := HSP; clear hgo
               go_at_call 43
               refine (HSP.out _ r_t1).mono ?_
               rintro e w6 ⟨rfl, q6, g6⟩
               replace r_t2 := gb_rowIs r_t2 g6 (Ne.symm n_t1_t2)
               replace r_t3 := gb_rowIs r_t3 g6 (Ne.symm n_t1_t3)
               replace r_t1 : w6.rowIs b_t1 26 256 (pyF (mix Fm G n B2 0)) := pyF_congr q6 fun k _ => HPS.out k
               have Bw3 := Bw.grown g6 (HGS.out _ Bw) (by intro k hk; cases hk; exact l_t1)
               clear Bw g6 q6 HSP))
          go_roundw
          case rel => exact ⟨s + 1, K1, B2, HSM.out, HKK, HSB, rfl, rfl, r_t1, r_t2, r_t3, Bw3⟩
          case measure => (have := HMS.out; simp [intOf]; try omega)
        · have hBI : ¬ (B : Int) < 256 := by omega
          obtain ⟨hsM, hB256⟩ := cut_ge HMN.out HB.out hs hB
          have r_n : wr.rowIs b_t1 26 256 (pyF (istg f (m + 1))) := pyF_congr r_t1 fun k hk => by rw [mix_yes (by omega), HG.out]
          have HK2 : Hid (nn = 2 ^ (m + 1 + 1)) := Lib.hid (by rw [Nat.pow_succ, ← HN.out, HNN.out, Nat.mul_comm])
          have HKN : Hid (nn * (K + 1) = 256) := Lib.hid (by
            have h3 := HMN.out
            have h4 : K + 1 = M := by have := HK.out; omega
            rw [HNN.out, h4, Nat.mul_assoc, Nat.mul_comm n M, h3])
          have HLT : Hid (300 - nn < 300 - n) := Lib.hid (by have := HNN.out; omega)
          clear r_t1 hsM hB256
          go_wp2
          go_roundw
          case rel => exact ⟨m + 1, K, nn, HM7.out, HK2, HKN, rfl, rfl, r_n, r_t2, r_t3, Bw⟩
          case measure => (have := HLT.out; simp [intOf]; try omega)
    · have h2I : ¬ (n : Int) < 256 := by have h8 := inv_big n m HN.out h2; omega
      obtain rfl : m = 7 := inv_end n m HN.out hm h2
      have Bw0 := Bw
      clear Bw r_t3
      go_wp2_with (first
        | (have hgo := Bw0; clear hgo
           refine wpList_load_as rfl 26 (.tmp 1) rfl 256 (pyF (istg f 7)) arrP r_t1 rfl (by omega) (fun i hi => by rw [Nat.zero_add]) ?_
           have Bw1 := Bw0
           clear Bw0))
      obtain ⟨A, hA⟩ : ∃ A, A = istg f 7 := ⟨_, rfl⟩
      have HA := Lib.hid hA
      have HAl : Hid (∀ i, A i < 65536) := Lib.hid fun i => by rw [hA]; exact Hf.out 7 i
      rw [← hA] at r_t1
      rw [← hA]
      have r_0 : wr.rowIs b_t1 26 256 (pyF fun k => if k < 0 then A k * 3303 % 3329 else A k) := pyF_congr r_t1 fun k _ => (if_neg (Nat.not_lt_zero k)).symm
      clear hA r_t1
      go_loopw [30] (fun ii wr => ∃ i : Nat, i ≤ 256 ∧ ii = .int .i64 (i : Int) ∧ wr.rowIs b_t1 26 256 (pyF fun k => if k < i then A k * 3303 % 3329 else A k) ∧ wr.rowIs b_t2 26 256 (pyF fun _ => 0) ∧ Below w.heap.size w wr) (fun ii _ => 256 - (intOf ii).toNat)
      case atStart => exact ⟨0, by omega, rfl, r_0, r_t2, Bw1⟩
      case round =>
        clear r_0 r_t2 Bw1
        obtain ⟨i, hi, rfl, r_t1, r_t2, Bw⟩ := hrel
        by_cases hlt : i < 256
        · have hiI : 0 ≤ (i : Int) ∧ (i : Int) < 256 := by omega
          obtain ⟨x, hx⟩ := nat_var (A i)
          have hxl : x < 65536 := by rw [hx]; exact HAl.out i
          obtain ⟨z, hz⟩ := nat_var (x * 3303 % 3329)
          have HX := Lib.hid hx.symm
          have HCP := Lib.hid fun w => rprod_any x 3303 z w hxl (by decide) hz
          have HS : Hid (∀ k, k < 256 → (fun k => if k < i + 1 then A k * 3303 % 3329 else A k) k = if k = i then z else (fun k => if k < i then A k * 3303 % 3329 else A k) k) := Lib.hid fun k hk => by
            show (if k < i + 1 then _ else _) = if k = i then z else if k < i then _ else _
            by_cases e : k = i
            · rw [if_pos (by omega), if_pos e, e, hz, hx]
            · rw [if_neg e]
              by_cases h2 : k < i
              · rw [if_pos h2, if_pos (by omega)]
              · rw [if_neg h2, if_neg (by omega)]
          have HI := Lib.hid hlt
          clear hx hz
          go_wp2_with (first
            | (have hgo := HX; clear hgo
               refine wpList_index_py rfl (.tmp 29) (.tmp 30) rfl HI.out rfl rfl HX.out ?_
               clear HX)
            | (have hgo := HCP; clear hgo
               go_at_call 44
               refine (HCP.out _).mono ?_
               rintro e w5 ⟨rfl, rfl⟩
               clear HCP)
            | (refine wpList_store_py rfl (.tmp 37) (.tmp 36) rfl (fun k => if k < i + 1 then A k * 3303 % 3329 else A k) r_t1 HI.out rfl rfl HS.out ?_
               intro w7 q7 g7
               replace r_t2 := gb_rowIs r_t2 g7 (Ne.symm n_t1_t2)
               have Bw3 := Bw.grown g7 (HGS.out _ Bw) (by intro k hk; cases hk; exact l_t1)
               clear Bw g7 r_t1 HS))
          go_roundw
          case rel => exact ⟨i + 1, by omega, by go_num, q7, r_t2, Bw3⟩
          case measure => (simp [intOf]; try omega)
        · obtain rfl : i = 256 := by omega
          replace r_t1 : wr.rowIs b_t1 26 256 (pyF (invN f)) := pyF_congr r_t1 fun k hk => by
            show (if k < 256 then _ else _) = _
            rw [if_pos hk, HA.out]
            rfl
          have Bw0 := Bw
          clear Bw
          go_wp2_with (first
            | (have hgo := Bw0; clear hgo
               refine wpList_load_as rfl 26 (.tmp 1) rfl 256 (pyF (invN f)) arrP r_t1 rfl (by omega) (fun i hi => by rw [Nat.zero_add]) ?_
               have Bw1 := Bw0
               clear Bw0)
            | (have hgo := Bw1; clear hgo
               refine wpList_store_as rfl 26 (.tmp 2) (.tmp 39) rfl 256 (pyF (invN f)) arrP r_t2 rfl rfl (by omega) (fun _ _ => rfl) (fun i hi => putN_whole hi) ?_
               intro w602 q gk
               replace r_t1 := gb_rowIs r_t1 gk n_t1_t2
               replace r_t2 := q
               have Bw2 := zbg HGS Bw1 gk l_t2
               clear Bw1 gk q))
          exact ret_cell_as _ rfl arrP r_t2 rfl (by omega) (fun _ _ => rfl) rfl ⟨rfl, Bw2⟩
end Go.Proofs.Ytnpifjimmeehdaa

/- The program's polynomials: a number's low digits; Compress, Expand. -/
namespace Go.Proofs.Ytnpifjimmeehdaa
open Go.RowKit Go.Deep
set_option linter.unusedSimpArgs false
set_option linter.unusedVariables false

theorem ofInt_nat32 (q : Nat) : BitVec.ofInt 32 (q : Int) = BitVec.ofNat 32 q := by
  rw [BitVec.ofInt_natCast]
theorem and_u32 (x d : Nat) (hx : x < 4294967296) (hd : d ≤ 16) : bits .and .u32 (x : Int) ((2 ^ d - 1 : Nat) : Int) = ((x % 2 ^ d : Nat) : Int) := by
  have hp : 2 ^ d ≤ 2 ^ 16 := Nat.pow_le_pow_right (by decide) hd
  have hm : x % 2 ^ d ≤ x := Nat.mod_le _ _
  have e : ((BitVec.ofNat 32 x) &&& (BitVec.ofNat 32 (2 ^ d - 1))).toNat = x % 2 ^ d := by
    rw [BitVec.toNat_and, BitVec.toNat_ofNat, BitVec.toNat_ofNat, Nat.mod_eq_of_lt (by omega), Nat.mod_eq_of_lt (by omega), Nat.and_two_pow_sub_one_eq_mod]
  show IntKind.u32.wrap (((BitVec.ofInt 32 (x : Int)) &&& (BitVec.ofInt 32 ((2 ^ d - 1 : Nat) : Int))).toNat : Int) = _
  rw [ofInt_nat32, ofInt_nat32, e, IntKind.wrap_u32]
  omega
/-- An operation on two values, its run known. -/
theorem wpList_binR {P : Program} {ops : Array Oper} {rest : List Oper} {o : Oper} {a : Act} {w : World} {Q : Exit → Act → World → Prop} (hgd : o.guard = none) (op : BinOp) (t t' : TypeId) (x y : Operand) (ho : o.op = .binOp op t x y t') {u v r : Value} (hq : ∀ w, (eqGuard op t x y u v).run P w = .ok () w) (hr : ∀ w, (binOp op t u v).run P w = .ok r w) (hx : a.eval x = u) (hy : a.eval y = v)
    (h : wpList P ops Q rest (a.put o.dst r) w) : wpList P ops Q (o :: rest) a w :=
  wpList_value hgd r (by simp [execOp, ho, hx, hy, hq, hr, Result.andThen]) h
theorem bs_oneI (w : World) (z : Int) (b : UInt8) (h : z = (b.toNat : Int)) : Bs (w.alloc (.cells #[.int .u8 z] 5)) (.slice (some ⟨w.heap.size, 0, none⟩) 1 1) [b] := by
  subst h
  exact Bs.one w b
theorem u32_in (x : Nat) (h : x < 4294967296) : IntKind.u32.wrap (x : Int) = (x : Int) := by rw [IntKind.wrap_u32]; omega
set_option maxHeartbeats 1000000 in
theorem low_any (x d c : Nat) (w : World) (hx : x < 4294967296) (hd : d ≤ 16) (hc : c = x % 2 ^ d) : Calls Try.prog 45 #[.int .u32 (x : Int), .int .i64 (d : Int)] w fun e w' => e = .returned (.int .u16 (c : Int)) ∧ w' = w := by
  have hand := and_u32 x d hx hd
  have hp : 2 ^ d ≤ 2 ^ 16 := Nat.pow_le_pow_right (by decide) hd
  have hp0 : 0 < 2 ^ d := Nat.pow_pos (by decide)
  obtain ⟨P, hP⟩ := nat_var (2 ^ d)
  obtain ⟨P1, hP1⟩ := nat_var (P - 1)
  have hpe : (2 : Int) ^ d = (P : Int) := by rw [hP, Int.natCast_pow]; rfl
  have hsh : IntKind.u32.wrap (2 ^ d) = (P : Int) := by rw [hpe, u32_in _ (by omega)]
  have hsh3 : (2 : Int) ^ min d 32 % 4294967296 = (P : Int) := by rw [Nat.min_eq_left (by omega), hpe]; omega
  have hs2 : ((P : Int) - 1) % 4294967296 = (P1 : Int) := by omega
  have hsh2 : IntKind.u32.wrap (1 * 2 ^ d) = (P : Int) := by rw [Int.one_mul, hsh]
  have hs1 : IntKind.u32.wrap ((P : Int) - 1) = (P1 : Int) := by rw [show (P : Int) - 1 = (P1 : Int) by omega, u32_in _ (by omega)]
  have hcl : c < P := by rw [hc, hP]; exact Nat.mod_lt _ hp0
  rw [← hc, ← hP, ← hP1] at hand
  have hw : IntKind.u32.wrap (c : Int) = (c : Int) := u32_in c (by omega)
  have hw2 := u16_in c (by omega)
  have hd0 : ¬ (d : Int) < 0 := by omega
  have hd1 : 0 ≤ (d : Int) := by omega
  have hd2 : (d : Int) < 64 := by omega
  clear hP hP1 hpe hcl hc hp hp0 hx hd
  go_enter Try.func45, Try.ntmps45
  go_wp2
  go_ret
  exact ⟨rfl, rfl⟩
set_option maxHeartbeats 4000000 in
set_option maxRecDepth 20000 in
theorem rCompress_ok (f : Nat → Nat) (d : Nat) (w : World) (hf : ∀ i, f i < 65536) (hd1 : 1 ≤ d) (hd2 : d ≤ 11) : Calls Try.prog 24 #[.agg (arrOf 256 (pyF f)), .int .i64 (d : Int)] w fun e w' => e = .returned (.tuple #[.agg (arrOf 256 (pyF fun k => (f k % 3329 * 2 ^ d + 1664) / 3329 % 2 ^ d)), .int .i64 0]) ∧ Below w.heap.size w w' := by
  have Bw0 := Below.refl w.heap.size w
  have HGS : Hid (∀ wq : World, Below w.heap.size w wq → w.heap.size ≤ wq.heap.size) := Lib.hid fun wq h => h.size
  have Hf := Lib.hid hf
  have hd3 : ¬ (d : Int) < 1 := by omega
  have hd4 : ¬ 11 < (d : Int) := by omega
  have hd5 : 0 ≤ (d : Int) := by omega
  have hd6 : (d : Int) < 64 := by omega
  have HP := Lib.hid (pow_d d hd1 hd2)
  obtain ⟨P, hP⟩ := nat_var (2 ^ d)
  have HPE := Lib.hid hP
  have hpe : (2 : Int) ^ d = (P : Int) := by rw [hP, Int.natCast_pow]; rfl
  have HPI := Lib.hid hpe
  clear hf hP hpe
  go_enter Try.func24, Try.ntmps24
  go_wp2_with (first
    | (have hgo := Bw0; clear hgo
       refine wpList_box_row rfl 26 (.tmp 0) rfl 256 (pyF f) rfl ?_
       intro b_t2 w1 lk r_t2 kk
       have l_t2 := zrl HGS Bw0 lk
       have Bw1 := zbt HGS Bw0 kk
       clear Bw0 kk lk)
    | (have hgo := Bw1; clear hgo
       refine wpList_alloc_row rfl 26 rfl 256 (pyF fun _ => 0) zeroP ?_
       intro b_t4 w2 lk r_t4 kk
       have n_t2_t4 := zrn r_t2 lk
       have l_t4 := zrl HGS Bw1 lk
       replace r_t2 := zrb r_t2 kk
       have Bw2 := zbt HGS Bw1 kk
       clear Bw1 kk lk)
    | (have hgo := Bw2; clear hgo
       refine wpList_load_as rfl 26 (.tmp 2) rfl 256 (pyF f) arrP r_t2 rfl (by omega) (fun i hi => by rw [Nat.zero_add]) ?_
       have Bw3 := Bw2
       clear Bw2))
  replace r_t2 := pyF_congr (g := fun k => if k < 0 then (f k % 3329 * 2 ^ d + 1664) / 3329 % 2 ^ d else f k) r_t2 fun k _ => (if_neg (Nat.not_lt_zero k)).symm
  go_loopw [16] (fun ii wr => ∃ i : Nat, i ≤ 256 ∧ ii = .int .i64 (i : Int) ∧ wr.rowIs b_t2 26 256 (pyF fun k => if k < i then (f k % 3329 * 2 ^ d + 1664) / 3329 % 2 ^ d else f k) ∧ wr.rowIs b_t4 26 256 (pyF fun _ => 0) ∧ Below w.heap.size w wr) (fun ii _ => 256 - (intOf ii).toNat)
  case atStart => exact ⟨0, by omega, rfl, r_t2, r_t4, Bw3⟩
  case round =>
    clear r_t2 r_t4 Bw3
    obtain ⟨i, hi, rfl, r_t2, r_t4, Bw⟩ := hrel
    by_cases hlt : i < 256
    · have hiI : 0 ≤ (i : Int) ∧ (i : Int) < 256 := by omega
      obtain ⟨x, hx⟩ := nat_var (f i)
      have hxl : x < 65536 := by rw [hx]; exact Hf.out i
      have HX := Lib.hid hx.symm
      have hPb := HP.out
      rw [← HPE.out] at hPb
      have hpe := HPI.out
      obtain ⟨r, hr⟩ := nat_var (x % 3329)
      obtain ⟨t, ht⟩ := nat_var (r * P)
      obtain ⟨u, hu⟩ := nat_var (t + 1664)
      obtain ⟨v, hv⟩ := nat_var (u / 3329)
      obtain ⟨z, hz⟩ := nat_var (v % 2 ^ d)
      have htl : t ≤ 3328 * 2048 := by rw [ht]; exact Nat.mul_le_mul (by omega) hPb.2
      have hwr2 : (x : Int).tmod 3329 = (r : Int) := by rw [Int.tmod_eq_emod_of_nonneg (by omega)]; omega
      have hwr : IntKind.u16.wrap ((x : Int).tmod 3329) = (r : Int) := by rw [hwr2, u16_in _ (by omega)]
      have hwr1 := u16_in r (by omega)
      have hwr3 : IntKind.u32.wrap (r : Int) = (r : Int) := u32_in _ (by omega)
      have hsh : IntKind.u32.wrap ((r : Int) * 2 ^ d) = (t : Int) := by rw [hpe, ← Int.natCast_mul, ← ht, u32_in _ (by omega)]
      have hwu : IntKind.u32.wrap ((t : Int) + 1664) = (u : Int) := by rw [show (t : Int) + 1664 = (u : Int) by omega, u32_in _ (by omega)]
      have hwv0 : (u : Int).tdiv 3329 = (v : Int) := by rw [Int.tdiv_eq_ediv_of_nonneg (by omega)]; omega
      have hwv : IntKind.u32.wrap ((u : Int).tdiv 3329) = (v : Int) := by rw [hwv0, u32_in _ (by omega)]
      have hwv2 : IntKind.u32.wrap ((u : Int) / 3329) = (v : Int) := by rw [show (u : Int) / 3329 = (v : Int) by omega, u32_in _ (by omega)]
      have hwv3 : (u : Int) / 3329 = (v : Int) := by omega
      have hwv4 : IntKind.u32.wrap (v : Int) = (v : Int) := u32_in _ (by omega)
      have HCP := Lib.hid fun w => low_any v d z w (by omega) (by omega) hz
      rw [hv, hu, ht, hr, hx, HPE.out] at hz
      clear hr ht hu hv htl
      have HS : Hid (∀ k, k < 256 → (fun k => if k < i + 1 then (f k % 3329 * 2 ^ d + 1664) / 3329 % 2 ^ d else f k) k = if k = i then z else (fun k => if k < i then (f k % 3329 * 2 ^ d + 1664) / 3329 % 2 ^ d else f k) k) := Lib.hid fun k hk => by
        show (if k < i + 1 then _ else _) = if k = i then z else if k < i then _ else _
        by_cases e : k = i
        · rw [if_pos (by omega), if_pos e, e, hz]
        · rw [if_neg e]
          by_cases h2 : k < i
          · rw [if_pos h2, if_pos (by omega)]
          · rw [if_neg h2, if_neg (by omega)]
      have HI := Lib.hid hlt
      clear hx hz hPb hpe
      go_wp2_with (first
        | (have hgo := HX; clear hgo
           refine wpList_index_py rfl (.tmp 15) (.tmp 16) rfl HI.out rfl rfl HX.out ?_
           clear HX)
        | (have hgo := HCP; clear hgo
           go_at_call 45
           refine (HCP.out _).mono ?_
           rintro e w5 ⟨rfl, rfl⟩
           clear HCP)
        | (refine wpList_store_py rfl (.tmp 30) (.tmp 29) rfl (fun k => if k < i + 1 then (f k % 3329 * 2 ^ d + 1664) / 3329 % 2 ^ d else f k) r_t2 HI.out rfl rfl HS.out ?_
           intro w7 q7 g7
           replace r_t4 := gb_rowIs r_t4 g7 (Ne.symm n_t2_t4)
           have Bw3 := Bw.grown g7 (HGS.out _ Bw) (by intro k hk; cases hk; exact l_t2)
           clear Bw g7 r_t2 HS))
      go_roundw
      case rel => exact ⟨i + 1, by omega, by go_num, q7, r_t4, Bw3⟩
      case measure => (simp [intOf]; try omega)
    · obtain rfl : i = 256 := by omega
      replace r_t2 : wr.rowIs b_t2 26 256 (pyF fun k => (f k % 3329 * 2 ^ d + 1664) / 3329 % 2 ^ d) := pyF_congr r_t2 fun k hk => if_pos hk
      have Bw0 := Bw
      clear Bw
      go_wp2_with (first
        | (have hgo := Bw0; clear hgo
           refine wpList_load_as rfl 26 (.tmp 2) rfl 256 (pyF (fun k => (f k % 3329 * 2 ^ d + 1664) / 3329 % 2 ^ d)) arrP r_t2 rfl (by omega) (fun i hi => by rw [Nat.zero_add]) ?_
           have Bw1 := Bw0
           clear Bw0)
        | (have hgo := Bw1; clear hgo
           refine wpList_store_as rfl 26 (.tmp 4) (.tmp 32) rfl 256 (pyF (fun k => (f k % 3329 * 2 ^ d + 1664) / 3329 % 2 ^ d)) arrP r_t4 rfl rfl (by omega) (fun _ _ => rfl) (fun i hi => putN_whole hi) ?_
           intro w502 q gk
           replace r_t2 := gb_rowIs r_t2 gk n_t2_t4
           replace r_t4 := q
           have Bw2 := zbg HGS Bw1 gk l_t4
           clear Bw1 gk q))
      exact ret_cell_as_tmp _ rfl arrP r_t4 rfl rfl (by omega) (fun _ _ => rfl) rfl ⟨rfl, Bw2⟩
set_option maxHeartbeats 4000000 in
set_option maxRecDepth 20000 in
theorem rCompress_small (f : Nat → Nat) (d : Int) (w : World) (hd : d < 1) : Calls Try.prog 24 #[.agg (arrOf 256 (pyF f)), .int .i64 d] w fun e w' => e = .returned (.tuple #[.agg (arrOf 256 (pyF fun _ => 0)), .int .i64 1]) ∧ Below w.heap.size w w' := by
  have Bw0 := Below.refl w.heap.size w
  have HGS : Hid (∀ wq : World, Below w.heap.size w wq → w.heap.size ≤ wq.heap.size) := Lib.hid fun wq h => h.size
  go_enter Try.func24, Try.ntmps24
  go_wp2_with (first
    | (have hgo := Bw0; clear hgo
       refine wpList_box_row rfl 26 (.tmp 0) rfl 256 (pyF f) rfl ?_
       intro b_t2 w1 lk r_t2 kk
       have l_t2 := zrl HGS Bw0 lk
       have Bw1 := zbt HGS Bw0 kk
       clear Bw0 kk lk)
    | (have hgo := Bw1; clear hgo
       refine wpList_alloc_row rfl 26 rfl 256 (pyF fun _ => 0) zeroP ?_
       intro b_t4 w2 lk r_t4 kk
       have n_t2_t4 := zrn r_t2 lk
       have l_t4 := zrl HGS Bw1 lk
       replace r_t2 := zrb r_t2 kk
       have Bw2 := zbt HGS Bw1 kk
       clear Bw1 kk lk)
    | (have hgo := Bw2; clear hgo
       refine wpList_build_arr rfl 26 #[] rfl (arrOf 256 (pyF (fun _ => 0))) ?_ ?_
       · simp only [List.map_toArray, List.map_cons, List.map_nil]; exact builtP0
       have Bw3 := Bw2
       clear Bw2)
    | (have hgo := Bw3; clear hgo
       refine wpList_store_as rfl 26 (.tmp 4) (.tmp 14) rfl 256 (pyF (fun _ => 0)) arrP r_t4 rfl rfl (by omega) (fun _ _ => rfl) (fun i hi => putN_whole hi) ?_
       intro w11 q gk
       replace r_t2 := gb_rowIs r_t2 gk n_t2_t4
       replace r_t4 := q
       have Bw4 := zbg HGS Bw3 gk l_t4
       clear Bw3 gk q))
  exact ret_cell_as_tmp _ rfl arrP r_t4 rfl rfl (by omega) (fun _ _ => rfl) rfl ⟨rfl, Bw4⟩
set_option maxHeartbeats 4000000 in
set_option maxRecDepth 20000 in
theorem rCompress_great (f : Nat → Nat) (d : Int) (w : World) (hd : 11 < d) : Calls Try.prog 24 #[.agg (arrOf 256 (pyF f)), .int .i64 d] w fun e w' => e = .returned (.tuple #[.agg (arrOf 256 (pyF fun _ => 0)), .int .i64 1]) ∧ Below w.heap.size w w' := by
  have Bw0 := Below.refl w.heap.size w
  have HGS : Hid (∀ wq : World, Below w.heap.size w wq → w.heap.size ≤ wq.heap.size) := Lib.hid fun wq h => h.size
  have hd3 : ¬ d < 1 := by omega
  go_enter Try.func24, Try.ntmps24
  go_wp2_with (first
    | (have hgo := Bw0; clear hgo
       refine wpList_box_row rfl 26 (.tmp 0) rfl 256 (pyF f) rfl ?_
       intro b_t2 w1 lk r_t2 kk
       have l_t2 := zrl HGS Bw0 lk
       have Bw1 := zbt HGS Bw0 kk
       clear Bw0 kk lk)
    | (have hgo := Bw1; clear hgo
       refine wpList_alloc_row rfl 26 rfl 256 (pyF fun _ => 0) zeroP ?_
       intro b_t4 w2 lk r_t4 kk
       have n_t2_t4 := zrn r_t2 lk
       have l_t4 := zrl HGS Bw1 lk
       replace r_t2 := zrb r_t2 kk
       have Bw2 := zbt HGS Bw1 kk
       clear Bw1 kk lk)
    | (have hgo := Bw2; clear hgo
       refine wpList_build_arr rfl 26 #[] rfl (arrOf 256 (pyF (fun _ => 0))) ?_ ?_
       · simp only [List.map_toArray, List.map_cons, List.map_nil]; exact builtP0
       have Bw3 := Bw2
       clear Bw2)
    | (have hgo := Bw3; clear hgo
       refine wpList_store_as rfl 26 (.tmp 4) (.tmp 14) rfl 256 (pyF (fun _ => 0)) arrP r_t4 rfl rfl (by omega) (fun _ _ => rfl) (fun i hi => putN_whole hi) ?_
       intro w11 q gk
       replace r_t2 := gb_rowIs r_t2 gk n_t2_t4
       replace r_t4 := q
       have Bw4 := zbg HGS Bw3 gk l_t4
       clear Bw3 gk q))
  exact ret_cell_as_tmp _ rfl arrP r_t4 rfl rfl (by omega) (fun _ _ => rfl) rfl ⟨rfl, Bw4⟩
set_option maxHeartbeats 4000000 in
set_option maxRecDepth 20000 in
theorem rExpand_ok (f : Nat → Nat) (d : Nat) (w : World) (hf : ∀ i, f i < 65536) (hd1 : 1 ≤ d) (hd2 : d ≤ 11) : Calls Try.prog 26 #[.agg (arrOf 256 (pyF f)), .int .i64 (d : Int)] w fun e w' => e = .returned (.tuple #[.agg (arrOf 256 (pyF fun k => (f k % 2 ^ d * 3329 + 2 ^ (d - 1)) / 2 ^ d)), .int .i64 0]) ∧ Below w.heap.size w w' := by
  have Bw0 := Below.refl w.heap.size w
  have HGS : Hid (∀ wq : World, Below w.heap.size w wq → w.heap.size ≤ wq.heap.size) := Lib.hid fun wq h => h.size
  have Hf := Lib.hid hf
  have hd3 : ¬ (d : Int) < 1 := by omega
  have hd4 : ¬ 11 < (d : Int) := by omega
  have hd5 : 0 ≤ (d : Int) := by omega
  have hd6 : (d : Int) < 64 := by omega
  have HP := Lib.hid (pow_d d hd1 hd2)
  obtain ⟨P, hP⟩ := nat_var (2 ^ d)
  have HPE := Lib.hid hP
  have hpe : (2 : Int) ^ d = (P : Int) := by rw [hP, Int.natCast_pow]; rfl
  have HPI := Lib.hid hpe
  clear hf hP hpe
  obtain ⟨e, he⟩ := nat_var (d - 1)
  obtain ⟨H, hH⟩ := nat_var (2 ^ e)
  have hwe : IntKind.i64.wrap ((d : Int) - 1) = (e : Int) := by rw [IntWalk.i64_in _ (by omega)]; omega
  have hPH : P = 2 * H := by rw [HPE.out, hH, show d = e + 1 by omega, Nat.pow_succ, Nat.mul_comm]
  have hhe : (2 : Int) ^ e = (H : Int) := by rw [hH, Int.natCast_pow]; rfl
  have hHl : H ≤ 1024 := by have := HP.out; rw [← HPE.out] at this; omega
  have hshe : IntKind.u32.wrap (2 ^ e) = (H : Int) := by rw [hhe, u32_in _ (by omega)]
  have hsh3 : (2 : Int) ^ min e 32 % 4294967296 = (H : Int) := by rw [Nat.min_eq_left (by omega), hhe]; omega
  have he0 : 0 ≤ (e : Int) := by omega
  have he1 : ¬ (e : Int) < 0 := by omega
  have he2 : (e : Int) < 64 := by omega
  have HH : Hid (H = 2 ^ (d - 1)) := Lib.hid (by rw [hH, he])
  have HHL := Lib.hid hHl
  clear he hH hPH hhe hHl
  go_enter Try.func26, Try.ntmps26
  go_wp2_with (first
    | (have hgo := Bw0; clear hgo
       refine wpList_box_row rfl 26 (.tmp 0) rfl 256 (pyF f) rfl ?_
       intro b_t2 w1 lk r_t2 kk
       have l_t2 := zrl HGS Bw0 lk
       have Bw1 := zbt HGS Bw0 kk
       clear Bw0 kk lk)
    | (have hgo := Bw1; clear hgo
       refine wpList_alloc_row rfl 26 rfl 256 (pyF fun _ => 0) zeroP ?_
       intro b_t4 w2 lk r_t4 kk
       have n_t2_t4 := zrn r_t2 lk
       have l_t4 := zrl HGS Bw1 lk
       replace r_t2 := zrb r_t2 kk
       have Bw2 := zbt HGS Bw1 kk
       clear Bw1 kk lk)
    | (have hgo := Bw2; clear hgo
       refine wpList_load_as rfl 26 (.tmp 2) rfl 256 (pyF f) arrP r_t2 rfl (by omega) (fun i hi => by rw [Nat.zero_add]) ?_
       have Bw3 := Bw2
       clear Bw2))
  replace r_t2 := pyF_congr (g := fun k => if k < 0 then (f k % 2 ^ d * 3329 + 2 ^ (d - 1)) / 2 ^ d else f k) r_t2 fun k _ => (if_neg (Nat.not_lt_zero k)).symm
  go_loopw [20] (fun ii wr => ∃ i : Nat, i ≤ 256 ∧ ii = .int .i64 (i : Int) ∧ wr.rowIs b_t2 26 256 (pyF fun k => if k < i then (f k % 2 ^ d * 3329 + 2 ^ (d - 1)) / 2 ^ d else f k) ∧ wr.rowIs b_t4 26 256 (pyF fun _ => 0) ∧ Below w.heap.size w wr) (fun ii _ => 256 - (intOf ii).toNat)
  case atStart => exact ⟨0, by omega, rfl, r_t2, r_t4, Bw3⟩
  case round =>
    clear r_t2 r_t4 Bw3
    obtain ⟨i, hi, rfl, r_t2, r_t4, Bw⟩ := hrel
    by_cases hlt : i < 256
    · have hiI : 0 ≤ (i : Int) ∧ (i : Int) < 256 := by omega
      obtain ⟨x, hx⟩ := nat_var (f i)
      have hxl : x < 65536 := by rw [hx]; exact Hf.out i
      have HX := Lib.hid hx.symm
      have hPb := HP.out
      rw [← HPE.out] at hPb
      have hpe := HPI.out
      have hHl := HHL.out
      obtain ⟨r, hr⟩ := nat_var (x % 2 ^ d)
      obtain ⟨t, ht⟩ := nat_var (r * 3329)
      obtain ⟨u, hu⟩ := nat_var (t + H)
      obtain ⟨z, hz⟩ := nat_var (u / P)
      have hrl : r < P := by rw [hr, HPE.out]; exact Nat.mod_lt _ (Nat.pow_pos (by decide))
      have hzl : z < 65536 := by rw [hz]; exact Nat.div_lt_of_lt_mul (by omega)
      have hwx : IntKind.u32.wrap (x : Int) = (x : Int) := u32_in _ (by omega)
      have hwr : IntKind.u32.wrap (r : Int) = (r : Int) := u32_in _ (by omega)
      have hwt : IntKind.u32.wrap ((r : Int) * 3329) = (t : Int) := by rw [show (r : Int) * 3329 = (t : Int) by omega, u32_in _ (by omega)]
      have hwu : IntKind.u32.wrap ((t : Int) + (H : Int)) = (u : Int) := by rw [show (t : Int) + (H : Int) = (u : Int) by omega, u32_in _ (by omega)]
      have hwz0 : (u : Int) / (P : Int) = (z : Int) := by rw [hz, Int.natCast_ediv]
      have hwz1 : (u : Int) / 2 ^ d = (z : Int) := by rw [hpe, hwz0]
      have hwz2 : IntKind.u32.wrap ((u : Int) / 2 ^ d) = (z : Int) := by rw [hwz1, u32_in _ (by omega)]
      have hwz3 : IntKind.u32.wrap (z : Int) = (z : Int) := u32_in _ (by omega)
      have hwu2 : ((t : Int) + (H : Int)) % 4294967296 = (u : Int) := by omega
      have hwzz := u16_in z hzl
      have HCP := Lib.hid fun w => low_any x d r w (by omega) (by omega) hr
      rw [hu, ht, hr, HH.out, hx, HPE.out] at hz
      clear hr ht hu hrl hHl hwz0
      have HS : Hid (∀ k, k < 256 → (fun k => if k < i + 1 then (f k % 2 ^ d * 3329 + 2 ^ (d - 1)) / 2 ^ d else f k) k = if k = i then z else (fun k => if k < i then (f k % 2 ^ d * 3329 + 2 ^ (d - 1)) / 2 ^ d else f k) k) := Lib.hid fun k hk => by
        show (if k < i + 1 then _ else _) = if k = i then z else if k < i then _ else _
        by_cases e : k = i
        · rw [if_pos (by omega), if_pos e, e, hz]
        · rw [if_neg e]
          by_cases h2 : k < i
          · rw [if_pos h2, if_pos (by omega)]
          · rw [if_neg h2, if_neg (by omega)]
      have HI := Lib.hid hlt
      clear hx hz hPb hpe
      go_wp2_with (first
        | (have hgo := HX; clear hgo
           refine wpList_index_py rfl (.tmp 19) (.tmp 20) rfl HI.out rfl rfl HX.out ?_
           clear HX)
        | (have hgo := HCP; clear hgo
           go_at_call 45
           refine (HCP.out _).mono ?_
           rintro e w5 ⟨rfl, rfl⟩
           clear HCP)
        | (refine wpList_store_py rfl (.tmp 36) (.tmp 35) rfl (fun k => if k < i + 1 then (f k % 2 ^ d * 3329 + 2 ^ (d - 1)) / 2 ^ d else f k) r_t2 HI.out rfl rfl HS.out ?_
           intro w7 q7 g7
           replace r_t4 := gb_rowIs r_t4 g7 (Ne.symm n_t2_t4)
           have Bw3 := Bw.grown g7 (HGS.out _ Bw) (by intro k hk; cases hk; exact l_t2)
           clear Bw g7 r_t2 HS))
      go_roundw
      case rel => exact ⟨i + 1, by omega, by go_num, q7, r_t4, Bw3⟩
      case measure => (simp [intOf]; try omega)
    · obtain rfl : i = 256 := by omega
      replace r_t2 : wr.rowIs b_t2 26 256 (pyF fun k => (f k % 2 ^ d * 3329 + 2 ^ (d - 1)) / 2 ^ d) := pyF_congr r_t2 fun k hk => if_pos hk
      have Bw0 := Bw
      clear Bw
      go_wp2_with (first
        | (have hgo := Bw0; clear hgo
           refine wpList_load_as rfl 26 (.tmp 2) rfl 256 (pyF (fun k => (f k % 2 ^ d * 3329 + 2 ^ (d - 1)) / 2 ^ d)) arrP r_t2 rfl (by omega) (fun i hi => by rw [Nat.zero_add]) ?_
           have Bw1 := Bw0
           clear Bw0)
        | (have hgo := Bw1; clear hgo
           refine wpList_store_as rfl 26 (.tmp 4) (.tmp 38) rfl 256 (pyF (fun k => (f k % 2 ^ d * 3329 + 2 ^ (d - 1)) / 2 ^ d)) arrP r_t4 rfl rfl (by omega) (fun _ _ => rfl) (fun i hi => putN_whole hi) ?_
           intro w502 q gk
           replace r_t2 := gb_rowIs r_t2 gk n_t2_t4
           replace r_t4 := q
           have Bw2 := zbg HGS Bw1 gk l_t4
           clear Bw1 gk q))
      exact ret_cell_as_tmp _ rfl arrP r_t4 rfl rfl (by omega) (fun _ _ => rfl) rfl ⟨rfl, Bw2⟩
set_option maxHeartbeats 4000000 in
set_option maxRecDepth 20000 in
theorem rExpand_small (f : Nat → Nat) (d : Int) (w : World) (hd : d < 1) : Calls Try.prog 26 #[.agg (arrOf 256 (pyF f)), .int .i64 d] w fun e w' => e = .returned (.tuple #[.agg (arrOf 256 (pyF fun _ => 0)), .int .i64 1]) ∧ Below w.heap.size w w' := by
  have Bw0 := Below.refl w.heap.size w
  have HGS : Hid (∀ wq : World, Below w.heap.size w wq → w.heap.size ≤ wq.heap.size) := Lib.hid fun wq h => h.size
  go_enter Try.func26, Try.ntmps26
  go_wp2_with (first
    | (have hgo := Bw0; clear hgo
       refine wpList_box_row rfl 26 (.tmp 0) rfl 256 (pyF f) rfl ?_
       intro b_t2 w1 lk r_t2 kk
       have l_t2 := zrl HGS Bw0 lk
       have Bw1 := zbt HGS Bw0 kk
       clear Bw0 kk lk)
    | (have hgo := Bw1; clear hgo
       refine wpList_alloc_row rfl 26 rfl 256 (pyF fun _ => 0) zeroP ?_
       intro b_t4 w2 lk r_t4 kk
       have n_t2_t4 := zrn r_t2 lk
       have l_t4 := zrl HGS Bw1 lk
       replace r_t2 := zrb r_t2 kk
       have Bw2 := zbt HGS Bw1 kk
       clear Bw1 kk lk)
    | (have hgo := Bw2; clear hgo
       refine wpList_build_arr rfl 26 #[] rfl (arrOf 256 (pyF (fun _ => 0))) ?_ ?_
       · simp only [List.map_toArray, List.map_cons, List.map_nil]; exact builtP0
       have Bw3 := Bw2
       clear Bw2)
    | (have hgo := Bw3; clear hgo
       refine wpList_store_as rfl 26 (.tmp 4) (.tmp 15) rfl 256 (pyF (fun _ => 0)) arrP r_t4 rfl rfl (by omega) (fun _ _ => rfl) (fun i hi => putN_whole hi) ?_
       intro w11 q gk
       replace r_t2 := gb_rowIs r_t2 gk n_t2_t4
       replace r_t4 := q
       have Bw4 := zbg HGS Bw3 gk l_t4
       clear Bw3 gk q))
  exact ret_cell_as_tmp _ rfl arrP r_t4 rfl rfl (by omega) (fun _ _ => rfl) rfl ⟨rfl, Bw4⟩
set_option maxHeartbeats 4000000 in
set_option maxRecDepth 20000 in
theorem rExpand_great (f : Nat → Nat) (d : Int) (w : World) (hd : 11 < d) : Calls Try.prog 26 #[.agg (arrOf 256 (pyF f)), .int .i64 d] w fun e w' => e = .returned (.tuple #[.agg (arrOf 256 (pyF fun _ => 0)), .int .i64 1]) ∧ Below w.heap.size w w' := by
  have Bw0 := Below.refl w.heap.size w
  have HGS : Hid (∀ wq : World, Below w.heap.size w wq → w.heap.size ≤ wq.heap.size) := Lib.hid fun wq h => h.size
  have hd3 : ¬ d < 1 := by omega
  go_enter Try.func26, Try.ntmps26
  go_wp2_with (first
    | (have hgo := Bw0; clear hgo
       refine wpList_box_row rfl 26 (.tmp 0) rfl 256 (pyF f) rfl ?_
       intro b_t2 w1 lk r_t2 kk
       have l_t2 := zrl HGS Bw0 lk
       have Bw1 := zbt HGS Bw0 kk
       clear Bw0 kk lk)
    | (have hgo := Bw1; clear hgo
       refine wpList_alloc_row rfl 26 rfl 256 (pyF fun _ => 0) zeroP ?_
       intro b_t4 w2 lk r_t4 kk
       have n_t2_t4 := zrn r_t2 lk
       have l_t4 := zrl HGS Bw1 lk
       replace r_t2 := zrb r_t2 kk
       have Bw2 := zbt HGS Bw1 kk
       clear Bw1 kk lk)
    | (have hgo := Bw2; clear hgo
       refine wpList_build_arr rfl 26 #[] rfl (arrOf 256 (pyF (fun _ => 0))) ?_ ?_
       · simp only [List.map_toArray, List.map_cons, List.map_nil]; exact builtP0
       have Bw3 := Bw2
       clear Bw2)
    | (have hgo := Bw3; clear hgo
       refine wpList_store_as rfl 26 (.tmp 4) (.tmp 15) rfl 256 (pyF (fun _ => 0)) arrP r_t4 rfl rfl (by omega) (fun _ _ => rfl) (fun i hi => putN_whole hi) ?_
       intro w11 q gk
       replace r_t2 := gb_rowIs r_t2 gk n_t2_t4
       replace r_t4 := q
       have Bw4 := zbg HGS Bw3 gk l_t4
       clear Bw3 gk q))
  exact ret_cell_as_tmp _ rfl arrP r_t4 rfl rfl (by omega) (fun _ _ => rfl) rfl ⟨rfl, Bw4⟩
end Go.Proofs.Ytnpifjimmeehdaa

/- The document's numbers below p: StrictFe. -/
set_option linter.unusedSimpArgs false
set_option linter.unusedVariables false
namespace Go.Proofs.Ytnpifjimmeehdaa
open Go.RowKit Go.Deep

section
variable {P : Program} {ops : Array Oper} {Q : Exit → Act → World → Prop}
end
end Go.Proofs.Ytnpifjimmeehdaa

/- Bytes and numbers, the least byte first: what StrictFe reads is what is below p. -/
set_option linter.unusedSimpArgs false
set_option linter.unusedVariables false
namespace Go.Proofs.Ytnpifjimmeehdaa
open Go.RowKit Go.Deep

theorem pow256_pos (k : Nat) : 0 < 256 ^ k := Nat.pow_pos (by decide)
theorem litB_getD (V n i : Nat) (h : i < n) : (litB V n).getD i 0 = UInt8.ofNat (V / 256 ^ i) := by
  unfold litB
  rw [List.getD_eq_getElem?_getD, List.getElem?_map, List.getElem?_range h]
  show UInt8.ofNat (V / 2 ^ (8 * i)) = _
  rw [Nat.pow_mul]
theorem numL_litB (V n : Nat) : ∀ k, k ≤ n → numL (litB V n) k = V % 256 ^ k
  | 0, _ => by rw [Nat.pow_zero, Nat.mod_one]; rfl
  | k + 1, h => by
    rw [numL, numL_litB V n k (by omega), litB_getD V n k (by omega), Nat.pow_succ, Nat.mod_mul]
    simp only [UInt8.toNat_ofNat']
    rw [Nat.mul_comm]
theorem numL_add (l : List UInt8) (i : Nat) : ∀ d, ∃ r, numL l (i + d) = numL l i + 256 ^ i * r
  | 0 => ⟨0, by simp⟩
  | d + 1 => by
    obtain ⟨r, hr⟩ := numL_add l i d
    refine ⟨r + (l.getD (i + d) 0).toNat * 256 ^ d, ?_⟩
    show numL l (i + d) + (l.getD (i + d) 0).toNat * 256 ^ (i + d) = _
    rw [hr, Nat.mul_add, Nat.pow_add]
    have : (l.getD (i + d) 0).toNat * (256 ^ i * 256 ^ d) = 256 ^ i * ((l.getD (i + d) 0).toNat * 256 ^ d) := by ac_rfl
    omega
theorem numL_dig (l : List UInt8) (n i : Nat) (h : i < n) : numL l n / 256 ^ i % 256 = (l.getD i 0).toNat := by
  obtain ⟨r, hr⟩ := numL_add l (i + 1) (n - (i + 1))
  rw [show i + 1 + (n - (i + 1)) = n by omega] at hr
  have h1 := numL_lt l i
  have h2 := UInt8.toNat_lt (l.getD i 0)
  rw [hr, numL, Nat.pow_succ]
  have e : numL l i + (l.getD i 0).toNat * 256 ^ i + 256 ^ i * 256 * r = numL l i + 256 ^ i * ((l.getD i 0).toNat + 256 * r) := by
    rw [Nat.mul_add, Nat.mul_assoc, Nat.mul_comm (l.getD i 0).toNat]; omega
  rw [e, Nat.add_mul_div_left _ _ (pow256_pos i), Nat.div_eq_of_lt h1]
  omega
theorem litB_numL (l : List UInt8) (n : Nat) (h : l.length = n) : litB (numL l n) n = l := by
  refine List.ext_getElem (by rw [litB_length, h]) fun i h1 h2 => ?_
  rw [litB_length] at h1
  have e1 := litB_getD (numL l n) n i h1
  rw [getD_at _ i (by rw [litB_length]; exact h1)] at e1
  rw [e1, ← getD_at l i h2]
  apply UInt8.toNat_inj.1
  simp only [UInt8.toNat_ofNat']
  exact numL_dig l n i h1
end Go.Proofs.Ytnpifjimmeehdaa

/- Numbers of a few binary digits each, packed into bytes and read of them. -/
namespace Go.Proofs.Ytnpifjimmeehdaa
open Go.RowKit Go.Deep
set_option linter.unusedSimpArgs false
set_option linter.unusedVariables false

theorem p256 (k : Nat) : (256 : Nat) ^ k = 2 ^ (8 * k) := by rw [Nat.pow_mul]
theorem p256_pos (k : Nat) : 0 < (256 : Nat) ^ k := Nat.pow_pos (by decide)
theorem litB_el (V n i : Nat) (h : i < (litB V n).length) : (litB V n)[i] = UInt8.ofNat (V / 256 ^ i) := by
  simp [litB, p256]
theorem litB_el_nat (V n i : Nat) (h : i < (litB V n).length) : ((litB V n)[i]).toNat = V / 256 ^ i % 256 := by
  rw [litB_el, UInt8.toNat_ofNat']
theorem bs_split (k : Nat) : (2 : Nat) ^ k = 256 ^ (k / 8) * 2 ^ (k % 8) := by
  rw [p256, ← Nat.pow_add, Nat.div_add_mod]
theorem bs_next (X k : Nat) : X % 2 ^ (k + 1) = X % 2 ^ k + 256 ^ (k / 8) * (2 ^ (k % 8) * (X / 2 ^ k % 2)) := by
  rw [Nat.pow_succ, Nat.mod_mul, ← Nat.mul_assoc, ← bs_split]
theorem p8_le (k : Nat) : (2 : Nat) ^ (k % 8) ≤ 128 :=
  Nat.le_trans (Nat.pow_le_pow_right (by decide) (show k % 8 ≤ 7 by omega)) (by decide)
theorem bs_low (X k : Nat) : X % 2 ^ k / 256 ^ (k / 8) < 2 ^ (k % 8) := by
  refine Nat.div_lt_of_lt_mul ?_
  rw [← bs_split]
  exact Nat.mod_lt _ (Nat.pow_pos (by decide))
theorem bs_bit (X k : Nat) : 2 ^ (k % 8) * (X / 2 ^ k % 2) ≤ 2 ^ (k % 8) := by
  have h5 : X / 2 ^ k % 2 ≤ 1 := by omega
  exact Nat.le_trans (Nat.mul_le_mul_left _ h5) (by rw [Nat.mul_one]; exact Nat.le_refl _)
theorem bs_set (X k m z : Nat) (hz : z = X % 2 ^ k / 256 ^ (k / 8) + 2 ^ (k % 8) * (X / 2 ^ k % 2)) : (litB (X % 2 ^ k) m).set (k / 8) (UInt8.ofNat z) = litB (X % 2 ^ (k + 1)) m := by
  refine List.ext_getElem (by simp [litB_length]) fun j h1 h2 => ?_
  rw [List.getElem_set, litB_el _ _ _ h2, bs_next]
  split
  · subst j
    rw [Nat.add_mul_div_left _ _ (p256_pos _), hz]
  · rename_i hne
    rw [litB_el]
    apply UInt8.toNat_inj.1
    rw [UInt8.toNat_ofNat', UInt8.toNat_ofNat']
    by_cases h : j < k / 8
    · rw [show (256 : Nat) ^ (k / 8) = 256 ^ j * (2 ^ 8 * 256 ^ (k / 8 - j - 1)) by
        rw [show (2 : Nat) ^ 8 = 256 from rfl, ← Nat.mul_assoc, ← Nat.pow_succ, ← Nat.pow_add]; congr 1; omega, Nat.mul_assoc, Nat.add_mul_div_left _ _ (p256_pos j), Nat.mul_assoc, Nat.add_mul_mod_self_left]
    · have hge : (256 : Nat) ^ (k / 8) * 2 ^ (k % 8) ≤ 256 ^ j ∧ X % 2 ^ k < 256 ^ (k / 8) * 2 ^ (k % 8) := by
        constructor
        · rw [← bs_split, p256]
          exact Nat.pow_le_pow_right (by decide) (by omega)
        · rw [← bs_split]
          exact Nat.mod_lt _ (Nat.pow_pos (by decide))
      have hge2 : (256 : Nat) ^ (k / 8) * (2 ^ (k % 8) * 2) ≤ 256 ^ j := by
        rw [← Nat.mul_assoc, ← bs_split, ← Nat.pow_succ, p256]
        exact Nat.pow_le_pow_right (by decide) (by omega)
      have h3 : 256 ^ (k / 8) * (2 ^ (k % 8) * (X / 2 ^ k % 2)) ≤ 256 ^ (k / 8) * 2 ^ (k % 8) := Nat.mul_le_mul_left _ (bs_bit X k)
      rw [Nat.mul_left_comm] at hge2
      have h4 : X % 2 ^ k + 256 ^ (k / 8) * (2 ^ (k % 8) * (X / 2 ^ k % 2)) < 256 ^ j := by
        rw [Nat.mul_left_comm, Nat.mul_comm (2 ^ (k % 8)) 2, Nat.mul_left_comm] at hge2
        generalize 256 ^ (k / 8) * 2 ^ (k % 8) = A at *
        omega
      rw [Nat.div_eq_of_lt h4, Nat.div_eq_of_lt (Nat.lt_of_lt_of_le hge.2 hge.1)]
/-- The number of packed numbers of d digits. -/
def pk (v : Nat → Nat) (d : Nat) : Nat → Nat
  | 0 => 0
  | n + 1 => pk v d n + v n * 2 ^ (d * n)
theorem pk_lt (v : Nat → Nat) (d : Nat) (hv : ∀ i, v i < 2 ^ d) : ∀ n, pk v d n < 2 ^ (d * n)
  | 0 => by rw [Nat.mul_zero]; exact Nat.zero_lt_one
  | n + 1 => by
    have h1 := pk_lt v d hv n
    have h2 : (v n + 1) * 2 ^ (d * n) ≤ 2 ^ d * 2 ^ (d * n) := Nat.mul_le_mul_right _ (hv n)
    rw [Nat.add_mul, Nat.one_mul] at h2
    rw [pk, Nat.mul_succ, Nat.pow_add, Nat.mul_comm (2 ^ (d * n))]
    omega
theorem pk_part (v : Nat → Nat) (d : Nat) (hv : ∀ i, v i < 2 ^ d) (i : Nat) : ∀ n, i < n → pk v d n / 2 ^ (d * i) % 2 ^ d = v i
  | n + 1, h => by
    rw [pk]
    by_cases e : i = n
    · subst e
      rw [Nat.add_mul_div_right _ _ (Nat.pow_pos (by decide)), Nat.div_eq_of_lt (pk_lt v d hv i), Nat.zero_add, Nat.mod_eq_of_lt (hv i)]
    · have h3 : v n * 2 ^ (d * n) = 2 ^ (d * i) * (2 ^ d * (v n * 2 ^ (d * (n - i - 1)))) := by
        have e2 : d * n = d * i + (d + d * (n - i - 1)) := by
          conv => lhs; rw [show n = i + (1 + (n - i - 1)) by omega]
          rw [Nat.mul_add, Nat.mul_add, Nat.mul_one]
        rw [e2, Nat.pow_add, Nat.pow_add]
        ac_rfl
      rw [h3, Nat.add_mul_div_left _ _ (Nat.pow_pos (by decide)), Nat.add_mul_mod_self_left, pk_part v d hv i n (by omega)]
theorem part_bit (X d i k : Nat) (hk : k < d) : X / 2 ^ (d * i + k) % 2 = X / 2 ^ (d * i) % 2 ^ d / 2 ^ k % 2 := by
  rw [Nat.pow_add, ← Nat.div_div_eq_div_mul]
  generalize X / 2 ^ (d * i) = Y
  have h1 := Nat.mod_add_div Y (2 ^ d)
  have e : 2 ^ d * (Y / 2 ^ d) = 2 ^ k * (2 * (2 ^ (d - k - 1) * (Y / 2 ^ d))) := by
    rw [← Nat.mul_assoc, ← Nat.mul_assoc, ← Nat.pow_succ, ← Nat.pow_add]
    congr 2
    omega
  have h2 : Y / 2 ^ k = Y % 2 ^ d / 2 ^ k + 2 * (2 ^ (d - k - 1) * (Y / 2 ^ d)) := by
    conv => lhs; rw [← h1, e]
    exact Nat.add_mul_div_left _ _ (Nat.pow_pos (by decide))
  rw [h2, Nat.add_mul_mod_self_left]
theorem pk_of (X d : Nat) : ∀ n, pk (fun i => X / 2 ^ (d * i) % 2 ^ d) d n = X % 2 ^ (d * n)
  | 0 => by rw [Nat.mul_zero, Nat.pow_zero, Nat.mod_one]; rfl
  | n + 1 => by
    rw [pk, pk_of X d n, Nat.mul_succ, Nat.pow_add, Nat.mod_mul, Nat.mul_comm (2 ^ (d * n))]
theorem bitL_num (l : List UInt8) (n t : Nat) (h : t / 8 < n) : bitL l t = numL l n / 2 ^ t % 2 := by
  unfold bitL
  rw [← numL_dig l n (t / 8) h]
  conv => rhs; rw [bs_split t, ← Nat.div_div_eq_div_mul]
  generalize numL l n / 256 ^ (t / 8) = Y
  have h1 : t % 8 < 8 := Nat.mod_lt _ (by decide)
  have h2 := part_bit Y 8 0 (t % 8) h1
  rw [Nat.mul_zero, Nat.zero_add, Nat.pow_zero, Nat.div_one] at h2
  exact h2.symm
theorem or_u8 (a s b : Nat) (hs : s < 8) (ha : a < 2 ^ s) (hb : b ≤ 1) : bits .or .u8 (a : Int) ((2 ^ s * b : Nat) : Int) = ((a + 2 ^ s * b : Nat) : Int) := by
  have g : ∀ s : Fin 8, ∀ a : Fin 128, a.val < 2 ^ s.val → ∀ b : Fin 2, bits .or .u8 ((a.val : Nat) : Int) ((2 ^ s.val * b.val : Nat) : Int) = ((a.val + 2 ^ s.val * b.val : Nat) : Int) := by decide +kernel
  have h7 : (2 : Nat) ^ s ≤ 2 ^ 7 := Nat.pow_le_pow_right (by decide) (by omega)
  exact g ⟨s, hs⟩ ⟨a, Nat.lt_of_lt_of_le ha h7⟩ ha ⟨b, by omega⟩
/-- What is written of a place. -/
def vvN (f : Nat → Nat) (d i : Nat) : Nat := if d = 12 then f i % 3329 else f i % 2 ^ d
theorem vvN_lt (f : Nat → Nat) (d i : Nat) : vvN f d i < 2 ^ d := by
  unfold vvN
  by_cases h : d = 12
  · rw [if_pos h, h]
    exact Nat.lt_trans (Nat.mod_lt _ (by decide)) (by decide)
  · rw [if_neg h]
    exact Nat.mod_lt _ (Nat.pow_pos (by decide))
def encL (f : Nat → Nat) (d : Nat) : List UInt8 := litB (pk (vvN f d) d 256) (32 * d)
end Go.Proofs.Ytnpifjimmeehdaa

/- The document's polynomials: written as bytes. -/
namespace Go.Proofs.Ytnpifjimmeehdaa
open Go.RowKit Go.Deep
set_option linter.unusedSimpArgs false
set_option linter.unusedVariables false

theorem ofInt_nat (q : Nat) : BitVec.ofInt 64 (q : Int) = BitVec.ofNat 64 q := by
  rw [BitVec.ofInt_natCast]
theorem and_i64 (q : Nat) (h : q < 9223372036854775808) : bits .and .i64 (q : Int) 1 = ((q % 2 : Nat) : Int) := by
  have e : ((BitVec.ofNat 64 q) &&& (BitVec.ofNat 64 1)).toNat = q % 2 := by
    rw [BitVec.toNat_and, BitVec.toNat_ofNat, BitVec.toNat_ofNat, Nat.mod_eq_of_lt (by omega), show 1 % 2 ^ 64 = 1 from rfl, Nat.and_one_is_mod]
  show IntKind.i64.wrap (((BitVec.ofInt 64 (q : Int)) &&& (BitVec.ofInt 64 ((1 : Nat) : Int))).toNat : Int) = _
  rw [ofInt_nat, ofInt_nat, e, IntWalk.i64_in _ (by omega)]
theorem or_i64 (a k b : Nat) (ha : a < 2 ^ k) (hb : b ≤ 1) (hk : k < 32) : bits .or .i64 (a : Int) ((b * 2 ^ k : Nat) : Int) = ((a + b * 2 ^ k : Nat) : Int) := by
  have hp : 2 ^ k ≤ 2 ^ 32 := Nat.pow_le_pow_right (by decide) (by omega)
  have hbp : b * 2 ^ k ≤ 2 ^ 32 := Nat.le_trans (Nat.mul_le_mul_right _ hb) (by omega)
  have e : ((BitVec.ofNat 64 a) ||| (BitVec.ofNat 64 (b * 2 ^ k))).toNat = a + b * 2 ^ k := by
    rw [BitVec.toNat_or, BitVec.toNat_ofNat, BitVec.toNat_ofNat, Nat.mod_eq_of_lt (by omega), Nat.mod_eq_of_lt (by omega), Nat.or_comm, Nat.mul_comm, ← Nat.two_pow_add_eq_or_of_lt ha, Nat.add_comm]
  show IntKind.i64.wrap (((BitVec.ofInt 64 (a : Int)) ||| (BitVec.ofInt 64 ((b * 2 ^ k : Nat) : Int))).toNat : Int) = _
  rw [ofInt_nat, ofInt_nat, e, IntWalk.i64_in _ (by omega)]
theorem owns_frozen {w : World} {base g n cap : Nat} {l : List UInt8} (h : Owns w base (.slice (some ⟨g, 0, none⟩) n cap) l) (hn : n = l.length) (i : Nat) : w.frozen? ⟨g, i, none⟩ = false := by
  subst hn
  exact World.ownsRow.frozenAt h i
theorem litB_nil (m : Nat) : litB 0 m = List.replicate m 0 := by
  refine List.ext_getElem (by simp [litB_length]) fun i h1 h2 => ?_
  rw [litB_el, Nat.zero_div, List.getElem_replicate]
  rfl
theorem wpList_makeN {ops : Array Oper} {rest : List Oper} {o : Oper} {a : Act} {w : World} {Q : Exit → Act → World → Prop} (hgd : o.guard = none) (x : Operand) (ho : o.op = .makeSlice 36 x x) (n : Nat) (hx : a.eval x = .int .i64 (n : Int)) (hn : n ≤ 1000000)
    (h : ∀ b w', w.heap.size ≤ b → Owns w' b (.slice (some ⟨b, 0, none⟩) n n) (List.replicate n 0) → Below w.heap.size w w' → wpList Try.prog ops Q rest (a.put o.dst (.slice (some ⟨b, 0, none⟩) n n)) w') : wpList Try.prog ops Q (o :: rest) a w := by
  have hr : (Instr.makeSlice 36 (.int .i64 (n : Int)) (.int .i64 (n : Int))).run Try.prog w = .ok (.slice (some ⟨w.heap.size, 0, none⟩) n n) (w.alloc (.cells (madeCells #[.int .u8 0] n) 5)) := run_make_row' (P := Try.prog) 36 5 (.int .u8 0) 1 Try.underlying36 Try.info5 rfl .i64 .i64 n (by omega) (by omega) w
  have hx' : (execOp a.eval (mkOp (.makeSlice 36 x x) o.type)).run Try.prog w = .ok (.value (.slice (some ⟨w.heap.size, 0, none⟩) n n)) (w.alloc (.cells (madeCells #[.int .u8 0] n) 5)) := by
    simp [execOp, mkOp, hx, hr, Result.andThen]
  exact wpList_plain hgd fun _ hK => by
    unfold Oper.wp
    rw [exec_mkOp, ho, hx']
    exact hK _ _ (h _ _ (Nat.le_refl _) (made_own w n (by unfold maxLen; omega)) ((Below.refl _ _).alloc (Nat.le_refl _) _))
set_option maxHeartbeats 4000000 in
set_option maxRecDepth 20000 in
theorem refEncode_small (f : Nat → Nat) (d : Int) (w : World) (hd : d < 1) : Calls Try.prog 29 #[.agg (arrOf 256 (pyF f)), .int .i64 d] w fun e w' => e = .returned (.tuple #[.slice none 0 0, .int .i64 1]) ∧ Below w.heap.size w w' := by
  have Bw0 := Below.refl w.heap.size w
  have HGS : Hid (∀ wq : World, Below w.heap.size w wq → w.heap.size ≤ wq.heap.size) := Lib.hid fun wq h => h.size
  go_enter Try.func29, Try.ntmps29
  go_wp2_with (first
    | (have hgo := Bw0; clear hgo
       refine wpList_box_row rfl 27 (.tmp 0) rfl 256 (pyF f) rfl ?_
       intro b_t2 w1 lk r_t2 kk
       have l_t2 := Nat.le_trans (HGS.out _ Bw0) lk
       have Bw1 := Bw0.trans (kk.mono (HGS.out _ Bw0))
       clear Bw0 kk lk))
  go_ret2
  exact ⟨rfl, Bw1⟩
set_option maxHeartbeats 4000000 in
set_option maxRecDepth 20000 in
theorem refEncode_great (f : Nat → Nat) (d : Int) (w : World) (hd : 12 < d) : Calls Try.prog 29 #[.agg (arrOf 256 (pyF f)), .int .i64 d] w fun e w' => e = .returned (.tuple #[.slice none 0 0, .int .i64 1]) ∧ Below w.heap.size w w' := by
  have Bw0 := Below.refl w.heap.size w
  have HGS : Hid (∀ wq : World, Below w.heap.size w wq → w.heap.size ≤ wq.heap.size) := Lib.hid fun wq h => h.size
  have hd3 : ¬ d < 1 := by omega
  go_enter Try.func29, Try.ntmps29
  go_wp2_with (first
    | (have hgo := Bw0; clear hgo
       refine wpList_box_row rfl 27 (.tmp 0) rfl 256 (pyF f) rfl ?_
       intro b_t2 w1 lk r_t2 kk
       have l_t2 := Nat.le_trans (HGS.out _ Bw0) lk
       have Bw1 := Bw0.trans (kk.mono (HGS.out _ Bw0))
       clear Bw0 kk lk))
  go_ret2
  exact ⟨rfl, Bw1⟩
set_option maxHeartbeats 4000000 in
set_option maxRecDepth 20000 in
theorem refEncodeD (f : Nat → Nat) (d : Nat) (w : World) (hf : ∀ i, f i < 65536) (hd1 : 1 ≤ d) (hd2 : d < 12) : Calls Try.prog 29 #[.agg (arrOf 256 (pyF f)), .int .i64 (d : Int)] w fun e w' => ∃ v, e = .returned (.tuple #[v, .int .i64 0]) ∧ Owns w' w.heap.size v (encL f d) ∧ Below w.heap.size w w' := by
  have Bw0 := Below.refl w.heap.size w
  have HGS : Hid (∀ wq : World, Below w.heap.size w wq → w.heap.size ≤ wq.heap.size) := Lib.hid fun wq h => h.size
  have Hf := Lib.hid hf
  obtain ⟨X, hX⟩ := nat_var (pk (vvN f d) d 256)
  have HXB : Hid (∀ i k, i < 256 → k < d → X / 2 ^ (d * i + k) % 2 = vvN f d i / 2 ^ k % 2) := Lib.hid fun i k hi hk => by rw [part_bit _ _ _ _ hk, hX, pk_part (vvN f d) d (vvN_lt f d) i 256 hi]
  have HXL : Hid (X < 2 ^ (d * 256)) := Lib.hid (by rw [hX]; exact pk_lt _ _ (vvN_lt f d) 256)
  have HRES : Hid (encL f d = litB X (32 * d)) := Lib.hid (by unfold encL; rw [← hX])
  have hd3 : ¬ (d : Int) < 1 := by omega
  have hd4 : ¬ 12 < (d : Int) := by omega
  have hd5 : 0 ≤ (d : Int) := by omega
  have hd12 : ¬ (d : Int) = 12 := by omega
  have HP := Lib.hid (pow_d d hd1 (by omega))
  obtain ⟨Pw, hP⟩ := nat_var (2 ^ d)
  have HPE := Lib.hid hP
  obtain ⟨L, hL⟩ := nat_var (32 * d)
  have hwL : IntKind.i64.wrap (32 * (d : Int)) = (L : Int) := by rw [IntWalk.i64_in _ (by omega)]; omega
  have HL := Lib.hid hL
  clear hP hL
  rw [← HL.out] at HRES
  clear hX hf
  go_enter Try.func29, Try.ntmps29
  go_wp2_with (first
    | (have hgo := Bw0; clear hgo
       refine wpList_box_row rfl 27 (.tmp 0) rfl 256 (pyF f) rfl ?_
       intro b_t2 w1 lk r_t2 kk
       have l_t2 := Nat.le_trans (HGS.out _ Bw0) lk
       have Bw1 := Bw0.trans (kk.mono (HGS.out _ Bw0))
       clear Bw0 kk lk)
    | (have hgo := Bw1; clear hgo
       refine wpList_makeN rfl (.tmp 18) rfl L (by first | rfl | (rw [← hwL]; rfl)) (by have := HL.out; omega) ?_
       intro g w4 lk oc kk
       have n_g := Nat.ne_of_lt (Nat.lt_of_lt_of_le (World.rowIs.lt r_t2) lk)
       have l_g := Nat.le_trans (HGS.out _ Bw1) lk
       replace r_t2 := World.rowIs.of_block r_t2 (kk.block _ (World.rowIs.lt r_t2))
       have Bw2 := Bw1.trans (kk.mono (HGS.out _ Bw1))
       clear Bw1 kk lk))
  go_loopw [7] (fun iv wr => ∃ i : Nat, i ≤ 256 ∧ iv = .int .i64 (i : Int) ∧ wr.rowIs b_t2 27 256 (pyF f) ∧ Owns wr g (.slice (some ⟨g, 0, none⟩) L L) (litB (X % 2 ^ (d * i)) L) ∧ Below w.heap.size w wr) (fun iv _ => 256 - (intOf iv).toNat)
  case atStart => exact ⟨0, Nat.zero_le _, rfl, r_t2, by rw [Nat.mul_zero, Nat.pow_zero, Nat.mod_one, litB_nil]; exact oc, Bw2⟩
  case round =>
    clear r_t2 oc Bw2
    obtain ⟨i, hi, rfl, r_t2, oc, Bw⟩ := hrel
    by_cases hlt : i < 256
    · have hiI : 0 ≤ (i : Int) ∧ (i : Int) < 256 := by omega
      have HIL := Lib.hid hlt
      obtain ⟨x, hx⟩ := nat_var (f i)
      have hxl : x < 65536 := by rw [hx]; exact Hf.out i
      have hcx := pyF_cell r_t2 i hlt hx.symm
      have hwx : IntKind.i64.wrap (x : Int) = (x : Int) := IntWalk.i64_in _ (by omega)
      obtain ⟨v, hv⟩ := nat_var (vvN f d i)
      have hPb := HP.out
      rw [← HPE.out] at hPb
      have hvx : v = x % Pw := by rw [hv, hx, HPE.out]; unfold vvN; rw [if_neg (by omega)]
      have hpe : (2 : Int) ^ d = (Pw : Int) := by rw [HPE.out, Int.natCast_pow]; rfl
      have hsh1 : IntKind.i64.wrap (2 ^ d) = (Pw : Int) := by rw [hpe, IntWalk.i64_in _ (by omega)]
      have hp0 : ¬ (Pw : Int) = 0 := by omega
      have hpm : ¬ (Pw : Int) = -1 := by omega
      have hwv2 : (x : Int) % (Pw : Int) = (v : Int) := by rw [hvx, Int.natCast_emod]
      have hwv0 : (x : Int).tmod (Pw : Int) = (v : Int) := by rw [Int.tmod_eq_emod_of_nonneg (by omega), hwv2]
      have hvl : v < 4096 := by have : v < Pw := by { rw [hvx]; exact Nat.mod_lt _ (by omega) }; omega
      have hwv1 : IntKind.i64.wrap ((x : Int).tmod (Pw : Int)) = (v : Int) := by rw [hwv0, IntWalk.i64_in _ (by omega)]
      clear hvx hpe
      have HV : Hid (vvN f d i = v) := Lib.hid hv.symm
      have HVL := Lib.hid hvl
      obtain ⟨t0, ht0⟩ := nat_var (d * i)
      have ht0l : t0 ≤ d * 255 := by rw [ht0]; exact Nat.mul_le_mul_left _ (by omega)
      have hwt0 : IntKind.i64.wrap ((i : Int) * (d : Int)) = (t0 : Int) := by rw [show (i : Int) * (d : Int) = (t0 : Int) by rw [ht0, Int.natCast_mul, Int.mul_comm]; try rfl, IntWalk.i64_in _ (by omega)]
      have HT0 := Lib.hid ht0
      have HT0L := Lib.hid ht0l
      have o_0 : Owns wr g (.slice (some ⟨g, 0, none⟩) L L) (litB (X % 2 ^ (t0 + 0)) L) := by rw [Nat.add_zero, ht0]; exact oc
      clear hx hv hxl hvl oc ht0l ht0
      go_wp2
      go_region
      go_wp2
      replace r_t2 := r_t2.drew
      replace o_0 := o_0.drew
      replace Bw := Bw.drew
      go_loopw [9] (fun kv wr => ∃ k : Nat, k ≤ d ∧ kv = .int .i64 (k : Int) ∧ wr.rowIs b_t2 27 256 (pyF f) ∧ Owns wr g (.slice (some ⟨g, 0, none⟩) L L) (litB (X % 2 ^ (t0 + k)) L) ∧ Below w.heap.size w wr) (fun kv _ => d - (intOf kv).toNat)
      case atStart => exact ⟨0, Nat.zero_le _, rfl, r_t2, o_0, Bw⟩
      case round =>
        clear hcx r_t2 o_0 Bw
        obtain ⟨k, hk, rfl, r_t2, oc, Bw⟩ := hrel
        by_cases hkl : k < d
        · have hkI : (k : Int) < (d : Int) := by omega
          have hk0 : 0 ≤ (k : Int) := by omega
          have hk64 : (k : Int) < 64 := by omega
          obtain ⟨t, ht⟩ := nat_var (t0 + k)
          rw [← ht] at oc
          have htl : t < d * 256 := by have := HT0L.out; omega
          have hwt : IntKind.i64.wrap ((t0 : Int) + (k : Int)) = (t : Int) := by rw [IntWalk.i64_in _ (by omega)]; omega
          obtain ⟨q, hq⟩ := nat_var (t / 8)
          obtain ⟨s, hs⟩ := nat_var (t % 8)
          have hql : q < L := by rw [HL.out]; omega
          obtain ⟨a, ha⟩ := nat_var (X % 2 ^ t / 256 ^ (t / 8))
          have hal : a < 2 ^ s := by rw [ha, hs]; exact bs_low X t
          have hs8 : 2 ^ s ≤ 128 := by rw [hs]; exact p8_le t
          obtain ⟨e, he⟩ := nat_var (v / 2 ^ k)
          have hel : e < 4096 := by rw [he]; exact Nat.lt_of_le_of_lt (Nat.div_le_self _ _) HVL.out
          obtain ⟨b, hb⟩ := nat_var (e % 2)
          have hbl : b ≤ 1 := by omega
          have hXb : X / 2 ^ t % 2 = b := by rw [ht, HT0.out, HXB.out i k HIL.out hkl, HV.out, hb, he]
          obtain ⟨y, hy⟩ := nat_var (2 ^ s * b)
          obtain ⟨z, hz⟩ := nat_var (a + y)
          have hyl : y ≤ 128 := by rw [hy]; exact Nat.le_trans (Nat.mul_le_mul_left _ hbl) (by omega)
          have hzl : z < 256 := by omega
          have hset := bs_set X t L z (by rw [hz, ha, hy, hs, hXb])
          rw [← hq] at hset
          have hor := or_u8 a s b (by omega) hal hbl
          rw [← hy, ← hz] at hor
          have hand := and_i64 e (by omega)
          rw [← hb] at hand
          have hbe : (e : Int) % 2 = (b : Int) := by omega
          have hsv : (v : Int) / 2 ^ k = (e : Int) := by rw [he]; simp
          have hcv : IntKind.u8.wrap (b : Int) = (b : Int) := IntWalk.u8_in _ ⟨by omega, by omega⟩
          have hshl : IntKind.u8.wrap ((b : Int) * 2 ^ s) = (y : Int) := by
            have e9 : (b : Int) * 2 ^ s = (y : Int) := by rw [hy, Int.natCast_mul, Int.natCast_pow, Int.mul_comm]; rfl
            rw [e9]
            exact IntWalk.u8_in _ ⟨by omega, by omega⟩
          have hsh2 : IntKind.u8.wrap ((b : Int) * 2 ^ min s 8) = (y : Int) := by rw [Nat.min_eq_left (by omega)]; exact hshl
          have hquo : IntKind.i64.wrap ((t : Int).tdiv 8) = (q : Int) := by rw [Int.tdiv_eq_ediv_of_nonneg (by omega), IntWalk.i64_in _ (by omega)]; omega
          have hquo2 : IntKind.i64.wrap ((t : Int) / 8) = (q : Int) := by rw [IntWalk.i64_in _ (by omega)]; omega
          have hrem : IntKind.i64.wrap ((t : Int).tmod 8) = (s : Int) := by rw [Int.tmod_eq_emod_of_nonneg (by omega), IntWalk.i64_in _ (by omega)]; omega
          have hrem2 : (t : Int).tmod 8 = (s : Int) := by rw [Int.tmod_eq_emod_of_nonneg (by omega)]; omega
          have hqI : 0 ≤ (q : Int) ∧ (q : Int) < (L : Int) := by omega
          have hsI : 0 ≤ (s : Int) := by omega
          have hsJ : (s : Int) < 64 := by omega
          have hcell := oc.cellAt (litB_length _ _).symm q (by rw [litB_length]; exact hql)
          rw [litB_el_nat, hq, ← ha, Nat.mod_eq_of_lt (by omega), ← hq] at hcell
          have hfr : wr.frozen? ⟨g, q, none⟩ = false := owns_frozen oc (litB_length _ _).symm q
          have hown := Owns.set (j := q) oc.drew (litB_length _ _).symm (UInt8.ofNat z)
          rw [UInt8.toNat_ofNat_of_lt' (show z < 256 from hzl), hset] at hown
          have k2 := gb_rowIs r_t2.drew (grownBy_set _ g q (.int .u8 (z : Int))) n_g
          have kb := Bw.drew.setCell (p := ⟨g, q, none⟩) l_g (.int .u8 (z : Int))
          have HOWN := Lib.hid hown
          have HKL := Lib.hid hkl
          have HT := Lib.hid ht
          clear hown hset hXb hy hz he hb hq hs ha hal hs8 hyl hzl hel hbl hql oc ht htl hkl r_t2 Bw
          go_wp2
          go_region
          go_wp2
          go_roundw
          case rel => exact ⟨k + 1, HKL.out, by have := HKL.out; go_num, k2, by rw [← Nat.add_assoc, ← HT.out]; exact HOWN.out, kb⟩
          case measure => (have := HKL.out; simp [intOf]; try omega)
        · obtain rfl : k = d := by omega
          have hkI : ¬ (k : Int) < (k : Int) := by omega
          have o_n : Owns wr g (.slice (some ⟨g, 0, none⟩) L L) (litB (X % 2 ^ (k * (i + 1))) L) := by rw [Nat.mul_succ, ← HT0.out]; exact oc
          clear oc
          go_wp2
          go_roundw
          case rel => exact ⟨i + 1, by have := HIL.out; omega, by go_num, r_t2, o_n, Bw⟩
          case measure => (have := HIL.out; simp [intOf]; try omega)
    · obtain rfl : i = 256 := by omega
      have o_n : Owns wr g (.slice (some ⟨g, 0, none⟩) L L) (encL f d) := by rw [HRES.out, ← Nat.mod_eq_of_lt HXL.out]; exact oc
      clear oc
      go_wp2
      go_ret2
      exact ⟨_, rfl, o_n.lower l_g, Bw⟩
set_option maxHeartbeats 4000000 in
set_option maxRecDepth 20000 in
theorem refEncode12 (f : Nat → Nat) (w : World) (hf : ∀ i, f i < 65536) : Calls Try.prog 29 #[.agg (arrOf 256 (pyF f)), .int .i64 12] w fun e w' => ∃ v, e = .returned (.tuple #[v, .int .i64 0]) ∧ Owns w' w.heap.size v (encL f 12) ∧ Below w.heap.size w w' := by
  have Bw0 := Below.refl w.heap.size w
  have HGS : Hid (∀ wq : World, Below w.heap.size w wq → w.heap.size ≤ wq.heap.size) := Lib.hid fun wq h => h.size
  have Hf := Lib.hid hf
  obtain ⟨X, hX⟩ := nat_var (pk (vvN f 12) 12 256)
  have HXB : Hid (∀ i k, i < 256 → k < 12 → X / 2 ^ (12 * i + k) % 2 = vvN f 12 i / 2 ^ k % 2) := Lib.hid fun i k hi hk => by rw [part_bit _ _ _ _ hk, hX, pk_part (vvN f 12) 12 (vvN_lt f 12) i 256 hi]
  have HXL : Hid (X < 2 ^ (12 * 256)) := Lib.hid (by rw [hX]; exact pk_lt _ _ (vvN_lt f 12) 256)
  have HRES : Hid (encL f 12 = litB X (32 * 12)) := Lib.hid (by unfold encL; rw [← hX])
  obtain ⟨L, hL⟩ := nat_var (32 * 12)
  have HL := Lib.hid hL
  have hwL : (384 : Int) = (L : Int) := by omega
  clear hL
  rw [← HL.out] at HRES
  clear hX hf
  go_enter Try.func29, Try.ntmps29
  go_wp2_with (first
    | (have hgo := Bw0; clear hgo
       refine wpList_box_row rfl 27 (.tmp 0) rfl 256 (pyF f) rfl ?_
       intro b_t2 w1 lk r_t2 kk
       have l_t2 := Nat.le_trans (HGS.out _ Bw0) lk
       have Bw1 := Bw0.trans (kk.mono (HGS.out _ Bw0))
       clear Bw0 kk lk)
    | (have hgo := Bw1; clear hgo
       refine wpList_makeN rfl (.tmp 18) rfl L (by first | rfl | (rw [← hwL]; rfl)) (by have := HL.out; omega) ?_
       intro g w4 lk oc kk
       have n_g := Nat.ne_of_lt (Nat.lt_of_lt_of_le (World.rowIs.lt r_t2) lk)
       have l_g := Nat.le_trans (HGS.out _ Bw1) lk
       replace r_t2 := World.rowIs.of_block r_t2 (kk.block _ (World.rowIs.lt r_t2))
       have Bw2 := Bw1.trans (kk.mono (HGS.out _ Bw1))
       clear Bw1 kk lk))
  go_loopw [7] (fun iv wr => ∃ i : Nat, i ≤ 256 ∧ iv = .int .i64 (i : Int) ∧ wr.rowIs b_t2 27 256 (pyF f) ∧ Owns wr g (.slice (some ⟨g, 0, none⟩) L L) (litB (X % 2 ^ (12 * i)) L) ∧ Below w.heap.size w wr) (fun iv _ => 256 - (intOf iv).toNat)
  case atStart => exact ⟨0, Nat.zero_le _, rfl, r_t2, by rw [Nat.mul_zero, Nat.pow_zero, Nat.mod_one, litB_nil]; exact oc, Bw2⟩
  case round =>
    clear r_t2 oc Bw2
    obtain ⟨i, hi, rfl, r_t2, oc, Bw⟩ := hrel
    by_cases hlt : i < 256
    · have hiI : 0 ≤ (i : Int) ∧ (i : Int) < 256 := by omega
      have HIL := Lib.hid hlt
      obtain ⟨x, hx⟩ := nat_var (f i)
      have hxl : x < 65536 := by rw [hx]; exact Hf.out i
      have hcx := pyF_cell r_t2 i hlt hx.symm
      have hwx : IntKind.i64.wrap (x : Int) = (x : Int) := IntWalk.i64_in _ (by omega)
      obtain ⟨v, hv⟩ := nat_var (vvN f 12 i)
      obtain ⟨r4, hr4⟩ := nat_var (x % 4096)
      have hwr0 : (x : Int).tmod 4096 = (r4 : Int) := by rw [Int.tmod_eq_emod_of_nonneg (by omega)]; omega
      have hwr1 : IntKind.i64.wrap ((x : Int).tmod 4096) = (r4 : Int) := by rw [hwr0, IntWalk.i64_in _ (by omega)]
      have hvx : v = x % 3329 := by rw [hv, hx]; rfl
      have hwv0 : (x : Int).tmod 3329 = (v : Int) := by rw [Int.tmod_eq_emod_of_nonneg (by omega)]; omega
      have hwv1 : IntKind.i64.wrap ((x : Int).tmod 3329) = (v : Int) := by rw [hwv0, IntWalk.i64_in _ (by omega)]
      have hvl : v < 4096 := by omega
      have hTI : 0 ≤ (i : Int) * 12 := by omega
      clear hr4 hvx
      have HV : Hid (vvN f 12 i = v) := Lib.hid hv.symm
      have HVL := Lib.hid hvl
      obtain ⟨t0, ht0⟩ := nat_var (12 * i)
      have ht0l : t0 ≤ 12 * 255 := by rw [ht0]; exact Nat.mul_le_mul_left _ (by omega)
      have hwt0 : IntKind.i64.wrap ((i : Int) * 12) = (t0 : Int) := by rw [show (i : Int) * 12 = (t0 : Int) by rw [ht0, Int.natCast_mul, Int.mul_comm]; try rfl, IntWalk.i64_in _ (by omega)]
      have HT0 := Lib.hid ht0
      have HT0L := Lib.hid ht0l
      have o_0 : Owns wr g (.slice (some ⟨g, 0, none⟩) L L) (litB (X % 2 ^ (t0 + 0)) L) := by rw [Nat.add_zero, ht0]; exact oc
      clear hx hv hxl hvl oc ht0l ht0
      go_wp2
      go_region
      go_wp2
      replace r_t2 := r_t2.drew
      replace o_0 := o_0.drew
      replace Bw := Bw.drew
      go_loopw [9] (fun kv wr => ∃ k : Nat, k ≤ 12 ∧ kv = .int .i64 (k : Int) ∧ wr.rowIs b_t2 27 256 (pyF f) ∧ Owns wr g (.slice (some ⟨g, 0, none⟩) L L) (litB (X % 2 ^ (t0 + k)) L) ∧ Below w.heap.size w wr) (fun kv _ => 12 - (intOf kv).toNat)
      case atStart => exact ⟨0, Nat.zero_le _, rfl, r_t2, o_0, Bw⟩
      case round =>
        clear hcx r_t2 o_0 Bw
        obtain ⟨k, hk, rfl, r_t2, oc, Bw⟩ := hrel
        by_cases hkl : k < 12
        · have hkI : (k : Int) < 12 := by omega
          have hk0 : 0 ≤ (k : Int) := by omega
          have hk64 : (k : Int) < 64 := by omega
          obtain ⟨t, ht⟩ := nat_var (t0 + k)
          rw [← ht] at oc
          have htl : t < 12 * 256 := by have := HT0L.out; omega
          have hwt : IntKind.i64.wrap ((t0 : Int) + (k : Int)) = (t : Int) := by rw [IntWalk.i64_in _ (by omega)]; omega
          obtain ⟨q, hq⟩ := nat_var (t / 8)
          obtain ⟨s, hs⟩ := nat_var (t % 8)
          have hql : q < L := by rw [HL.out]; omega
          obtain ⟨a, ha⟩ := nat_var (X % 2 ^ t / 256 ^ (t / 8))
          have hal : a < 2 ^ s := by rw [ha, hs]; exact bs_low X t
          have hs8 : 2 ^ s ≤ 128 := by rw [hs]; exact p8_le t
          obtain ⟨e, he⟩ := nat_var (v / 2 ^ k)
          have hel : e < 4096 := by rw [he]; exact Nat.lt_of_le_of_lt (Nat.div_le_self _ _) HVL.out
          obtain ⟨b, hb⟩ := nat_var (e % 2)
          have hbl : b ≤ 1 := by omega
          have hXb : X / 2 ^ t % 2 = b := by rw [ht, HT0.out, HXB.out i k HIL.out hkl, HV.out, hb, he]
          obtain ⟨y, hy⟩ := nat_var (2 ^ s * b)
          obtain ⟨z, hz⟩ := nat_var (a + y)
          have hyl : y ≤ 128 := by rw [hy]; exact Nat.le_trans (Nat.mul_le_mul_left _ hbl) (by omega)
          have hzl : z < 256 := by omega
          have hset := bs_set X t L z (by rw [hz, ha, hy, hs, hXb])
          rw [← hq] at hset
          have hor := or_u8 a s b (by omega) hal hbl
          rw [← hy, ← hz] at hor
          have hand := and_i64 e (by omega)
          rw [← hb] at hand
          have hbe : (e : Int) % 2 = (b : Int) := by omega
          have hsv : (v : Int) / 2 ^ k = (e : Int) := by rw [he]; simp
          have hcv : IntKind.u8.wrap (b : Int) = (b : Int) := IntWalk.u8_in _ ⟨by omega, by omega⟩
          have hshl : IntKind.u8.wrap ((b : Int) * 2 ^ s) = (y : Int) := by
            have e9 : (b : Int) * 2 ^ s = (y : Int) := by rw [hy, Int.natCast_mul, Int.natCast_pow, Int.mul_comm]; rfl
            rw [e9]
            exact IntWalk.u8_in _ ⟨by omega, by omega⟩
          have hsh2 : IntKind.u8.wrap ((b : Int) * 2 ^ min s 8) = (y : Int) := by rw [Nat.min_eq_left (by omega)]; exact hshl
          have hquo : IntKind.i64.wrap ((t : Int).tdiv 8) = (q : Int) := by rw [Int.tdiv_eq_ediv_of_nonneg (by omega), IntWalk.i64_in _ (by omega)]; omega
          have hquo2 : IntKind.i64.wrap ((t : Int) / 8) = (q : Int) := by rw [IntWalk.i64_in _ (by omega)]; omega
          have hrem : IntKind.i64.wrap ((t : Int).tmod 8) = (s : Int) := by rw [Int.tmod_eq_emod_of_nonneg (by omega), IntWalk.i64_in _ (by omega)]; omega
          have hrem2 : (t : Int).tmod 8 = (s : Int) := by rw [Int.tmod_eq_emod_of_nonneg (by omega)]; omega
          have hqI : 0 ≤ (q : Int) ∧ (q : Int) < (L : Int) := by omega
          have hsI : 0 ≤ (s : Int) := by omega
          have hsJ : (s : Int) < 64 := by omega
          have hcell := oc.cellAt (litB_length _ _).symm q (by rw [litB_length]; exact hql)
          rw [litB_el_nat, hq, ← ha, Nat.mod_eq_of_lt (by omega), ← hq] at hcell
          have hfr : wr.frozen? ⟨g, q, none⟩ = false := owns_frozen oc (litB_length _ _).symm q
          have hown := Owns.set (j := q) oc.drew (litB_length _ _).symm (UInt8.ofNat z)
          rw [UInt8.toNat_ofNat_of_lt' (show z < 256 from hzl), hset] at hown
          have k2 := gb_rowIs r_t2.drew (grownBy_set _ g q (.int .u8 (z : Int))) n_g
          have kb := Bw.drew.setCell (p := ⟨g, q, none⟩) l_g (.int .u8 (z : Int))
          have HOWN := Lib.hid hown
          have HKL := Lib.hid hkl
          have HT := Lib.hid ht
          clear hown hset hXb hy hz he hb hq hs ha hal hs8 hyl hzl hel hbl hql oc ht htl hkl r_t2 Bw
          go_wp2
          go_region
          go_wp2
          go_roundw
          case rel => exact ⟨k + 1, HKL.out, by have := HKL.out; go_num, k2, by rw [← Nat.add_assoc, ← HT.out]; exact HOWN.out, kb⟩
          case measure => (have := HKL.out; simp [intOf]; try omega)
        · obtain rfl : k = 12 := by omega
          skip
          have o_n : Owns wr g (.slice (some ⟨g, 0, none⟩) L L) (litB (X % 2 ^ (12 * (i + 1))) L) := by rw [Nat.mul_succ, ← HT0.out]; exact oc
          clear oc
          go_wp2
          go_roundw
          case rel => exact ⟨i + 1, by have := HIL.out; omega, by go_num, r_t2, o_n, Bw⟩
          case measure => (have := HIL.out; simp [intOf]; try omega)
    · obtain rfl : i = 256 := by omega
      have o_n : Owns wr g (.slice (some ⟨g, 0, none⟩) L L) (encL f 12) := by rw [HRES.out, ← Nat.mod_eq_of_lt HXL.out]; exact oc
      clear oc
      go_wp2
      go_ret2
      exact ⟨_, rfl, o_n.lower l_g, Bw⟩
end Go.Proofs.Ytnpifjimmeehdaa

/- The document's polynomials: read of bytes. -/
namespace Go.Proofs.Ytnpifjimmeehdaa
open Go.RowKit Go.Deep
set_option linter.unusedSimpArgs false
set_option linter.unusedVariables false

/-- The numbers of d digits each that X packs. -/
def decV (X d i : Nat) : Nat := X / 2 ^ (d * i) % 2 ^ d
theorem decV_lt (X d i : Nat) : decV X d i < 2 ^ d := Nat.mod_lt _ (Nat.pow_pos (by decide))
theorem dec_step (Y k : Nat) : Y % 2 ^ (k + 1) = Y % 2 ^ k + Y / 2 ^ k % 2 * 2 ^ k := by
  rw [Nat.pow_succ, Nat.mod_mul, Nat.mul_comm]
set_option maxHeartbeats 4000000 in
set_option maxRecDepth 20000 in
theorem refDecodeD (d : Nat) (v1 : Value) (l1 : List UInt8) (w : World) (h1 : Bs w v1 l1) (hl : l1.length = 32 * d) (hd1 : 1 ≤ d) (hd2 : d < 12) : Calls Try.prog 31 #[.int .i64 (d : Int), v1] w fun e w' => e = .returned (.tuple #[.agg (arrOf 256 (pyF (decV (numL l1 (32 * d)) d))), .int .i64 0]) ∧ Below w.heap.size w w' := by
  have Bw0 := Below.refl w.heap.size w
  have HGS : Hid (∀ wq : World, Below w.heap.size w wq → w.heap.size ≤ wq.heap.size) := Lib.hid fun wq h => h.size
  obtain ⟨L, hL⟩ := nat_var (32 * d)
  rw [← hL] at hl
  obtain ⟨gb, ob, cb, rfl, hc1, hc2, hbl, hcells⟩ := h1.open_n (n := L) hl (by omega)
  have HB := Lib.hid fun W (hW : Below w.heap.size w W) i (hi : i < l1.length) => bs_cell (h1.below hW (Nat.le_refl _)) i hi
  have HLL := Lib.hid hl
  obtain ⟨X, hX⟩ := nat_var (numL l1 (32 * d))
  rw [← hX]
  rw [← hL] at hX
  have HXB : Hid (∀ t, t / 8 < L → (l1.getD (t / 8) 0).toNat / 2 ^ (t % 8) % 2 = X / 2 ^ t % 2) := Lib.hid fun t ht => by rw [hX]; exact bitL_num l1 L t ht
  have hd3 : ¬ (d : Int) < 1 := by omega
  have hd4 : ¬ 12 < (d : Int) := by omega
  have hd5 : 0 ≤ (d : Int) := by omega
  have hd12 : ¬ (d : Int) = 12 := by omega
  have hwL : IntKind.i64.wrap (32 * (d : Int)) = (L : Int) := by rw [IntWalk.i64_in _ (by omega)]; omega
  have HL := Lib.hid hL
  clear hX hL hl h1 hc1 hc2 hbl hcells
  go_enter Try.func31, Try.ntmps31
  go_wp2_with (first
    | (have hgo := Bw0; clear hgo
       refine wpList_alloc_row rfl 27 rfl 256 (pyF fun _ => 0) zeroPy ?_
       intro b_t4 w1 lk r_t4 kk
       have l_t4 := Nat.le_trans (HGS.out _ Bw0) lk
       have Bw1 := Bw0.trans (kk.mono (HGS.out _ Bw0))
       clear Bw0 kk lk)
    | (have hgo := Bw1; clear hgo
       refine wpList_alloc_row rfl 27 rfl 256 (pyF fun _ => 0) zeroPy ?_
       intro b_t6 w14 lk r_t6 kk
       have n_t4_t6 : b_t4 ≠ b_t6 := Nat.ne_of_lt (Nat.lt_of_lt_of_le (World.rowIs.lt r_t4) lk)
       have l_t6 := Nat.le_trans (HGS.out _ Bw1) lk
       replace r_t4 := World.rowIs.of_block r_t4 (kk.block _ (World.rowIs.lt r_t4))
       have Bw2 := Bw1.trans (kk.mono (HGS.out _ Bw1))
       clear Bw1 kk lk))
  go_loopw [7] (fun iv wr => ∃ i : Nat, i ≤ 256 ∧ iv = .int .i64 (i : Int) ∧ wr.rowIs b_t4 27 256 (pyF fun _ => 0) ∧ wr.rowIs b_t6 27 256 (pyF fun j => if j < i then decV X d j else 0) ∧ Below w.heap.size w wr) (fun iv _ => 256 - (intOf iv).toNat)
  case atStart => exact ⟨0, Nat.zero_le _, rfl, r_t4, pyF_congr r_t6 (fun j _ => (if_neg (Nat.not_lt_zero j)).symm), Bw2⟩
  case round =>
    clear r_t4 r_t6 Bw2
    obtain ⟨i, hi, rfl, r_t4, r_t6, Bw⟩ := hrel
    by_cases hlt : i < 256
    · have hiI : 0 ≤ (i : Int) ∧ (i : Int) < 256 := by omega
      have HIL := Lib.hid hlt
      obtain ⟨t0, ht0⟩ := nat_var (d * i)
      have ht0l : t0 ≤ d * 255 := by rw [ht0]; exact Nat.mul_le_mul_left _ (by omega)
      have hwt0 : IntKind.i64.wrap ((i : Int) * (d : Int)) = (t0 : Int) := by rw [show (i : Int) * (d : Int) = (t0 : Int) by rw [ht0, Int.natCast_mul, Int.mul_comm]; try rfl, IntWalk.i64_in _ (by omega)]
      obtain ⟨Y, hY⟩ := nat_var (X / 2 ^ t0)
      have HY := Lib.hid hY
      have HT0 := Lib.hid ht0
      have HT0L := Lib.hid ht0l
      clear ht0l ht0 hY
      go_wp2
      go_loopw [8, 9] (fun vv kv wr => ∃ k v : Nat, k ≤ d ∧ Hid (v = Y % 2 ^ k) ∧ vv = .int .i64 (v : Int) ∧ kv = .int .i64 (k : Int) ∧ wr.rowIs b_t4 27 256 (pyF fun _ => 0) ∧ wr.rowIs b_t6 27 256 (pyF fun j => if j < i then decV X d j else 0) ∧ Below w.heap.size w wr) (fun _ kv _ => d - (intOf kv).toNat)
      case atStart => exact ⟨0, 0, Nat.zero_le _, Lib.hid (by rw [Nat.pow_zero, Nat.mod_one]), rfl, rfl, r_t4, r_t6, Bw⟩
      case round =>
        clear r_t4 r_t6 Bw
        obtain ⟨k, v, hk, HV, rfl, rfl, r_t4, r_t6, Bw⟩ := hrel
        by_cases hkl : k < d
        · have hkI : (k : Int) < (d : Int) := by omega
          have hk0 : 0 ≤ (k : Int) := by omega
          have hk64 : (k : Int) < 64 := by omega
          obtain ⟨t, ht⟩ := nat_var (t0 + k)
          have htl : t < d * 256 := by have := HT0L.out; omega
          have hwt : IntKind.i64.wrap ((t0 : Int) + (k : Int)) = (t : Int) := by rw [IntWalk.i64_in _ (by omega)]; omega
          obtain ⟨q, hq⟩ := nat_var (t / 8)
          obtain ⟨s, hs⟩ := nat_var (t % 8)
          have hql : q < L := by rw [HL.out]; omega
          have hcell := HB.out _ Bw q (by rw [HLL.out]; exact hql)
          rw [← getD_at l1 q (by rw [HLL.out]; exact hql)] at hcell
          obtain ⟨x, hx⟩ := nat_var (l1.getD q 0).toNat
          have hxl : x < 256 := by rw [hx]; exact UInt8.toNat_lt _
          rw [← hx] at hcell
          obtain ⟨e, he⟩ := nat_var (x / 2 ^ s)
          have hel : e < 256 := by rw [he]; exact Nat.lt_of_le_of_lt (Nat.div_le_self _ _) hxl
          obtain ⟨b, hb⟩ := nat_var (e % 2)
          have hbl : b ≤ 1 := by omega
          have hYb : Y / 2 ^ k % 2 = b := by rw [HY.out, Nat.div_div_eq_div_mul, ← Nat.pow_add, ← ht, ← HXB.out t (by omega), ← hq, ← hx, ← hs, ← he, ← hb]
          have hkp : 2 ^ k ≤ 2048 := Nat.le_trans (Nat.pow_le_pow_right (by decide) (show k ≤ 11 by omega)) (by decide)
          obtain ⟨y, hy⟩ := nat_var (b * 2 ^ k)
          have hyl : y ≤ 2048 := by rw [hy]; exact Nat.le_trans (Nat.mul_le_mul_right _ hbl) (by omega)
          obtain ⟨z, hz⟩ := nat_var (v + y)
          have hvl : v < 2 ^ k := by rw [HV.out]; exact Nat.mod_lt _ (Nat.pow_pos (by decide))
          have HZ : Hid (z = Y % 2 ^ (k + 1)) := Lib.hid (by rw [dec_step, ← HV.out, hYb, ← hy, hz])
          have hor := or_i64 v k b hvl hbl (by omega)
          rw [← hy, ← hz] at hor
          have hyI : (b : Int) * 2 ^ k = (y : Int) := by rw [hy, Int.natCast_mul, Int.natCast_pow]; rfl
          have hwy : IntKind.i64.wrap ((b : Int) * 2 ^ k) = (y : Int) := by rw [hyI, IntWalk.i64_in _ (by omega)]
          have hwb : IntKind.i64.wrap (b : Int) = (b : Int) := IntWalk.i64_in _ (by omega)
          have hquo : IntKind.i64.wrap ((t : Int).tdiv 8) = (q : Int) := by rw [Int.tdiv_eq_ediv_of_nonneg (by omega), IntWalk.i64_in _ (by omega)]; omega
          have hquo2 : IntKind.i64.wrap ((t : Int) / 8) = (q : Int) := by rw [IntWalk.i64_in _ (by omega)]; omega
          have hrem : IntKind.i64.wrap ((t : Int).tmod 8) = (s : Int) := by rw [Int.tmod_eq_emod_of_nonneg (by omega), IntWalk.i64_in _ (by omega)]; omega
          have hrem2 : (t : Int).tmod 8 = (s : Int) := by rw [Int.tmod_eq_emod_of_nonneg (by omega)]; omega
          have hqI : 0 ≤ (q : Int) ∧ (q : Int) < (L : Int) := by omega
          have HE := Lib.hid he
          have HS8 : Hid (s < 8) := Lib.hid (by omega)
          have HXL := Lib.hid hxl
          have HBB := Lib.hid hb
          have HEL := Lib.hid hel
          have HKL := Lib.hid hkl
          clear hYb hy hz he hb hq hs hx hxl hel hbl hql ht htl hkl hkp hyl hvl hyI
          go_wp2_with (first
            | refine wpList_shr8 rfl (.tmp 43) (.tmp 45) rfl rfl rfl HE.out HS8.out HXL.out ?_
            | refine wpList_and1 rfl (.tmp 46) (.const (.int .u8 1)) rfl rfl rfl HBB.out HEL.out ?_)
          go_roundw
          case rel => exact ⟨k + 1, z, HKL.out, HZ, rfl, by have := HKL.out; go_num, r_t4, r_t6, Bw⟩
          case measure => (have := HKL.out; simp [intOf]; try omega)
        · obtain rfl : k = d := by omega
          have hdv : decV X k i = v := by rw [HV.out, HY.out, HT0.out]; rfl
          have hvl : v < 4096 := by rw [← hdv]; exact Nat.lt_of_lt_of_le (decV_lt X k i) (Nat.le_trans (Nat.pow_le_pow_right (by decide) (show k ≤ 12 by omega)) (by decide))
          have hkI : ¬ (k : Int) < (k : Int) := by omega
          have hwv := u16_in v (by omega)
          have HS : Hid (∀ j, j < 256 → (fun j => if j < i + 1 then decV X k j else 0) j = if j = i then v else (fun j => if j < i then decV X k j else 0) j) := Lib.hid fun j hj => by
            show (if j < i + 1 then decV X k j else 0) = if j = i then v else if j < i then decV X k j else 0
            by_cases e : j = i
            · subst e; rw [if_pos (Nat.lt_succ_self j), if_pos rfl, hdv]
            · rw [if_neg e]
              by_cases h3 : j < i
              · rw [if_pos h3, if_pos (by omega)]
              · rw [if_neg h3, if_neg (by omega)]
          clear hdv
          go_wp2_with (first
            | (refine wpList_store_py rfl (.tmp 62) (.tmp 61) rfl (fun j => if j < i + 1 then decV X k j else 0) r_t6 HIL.out rfl rfl HS.out ?_
               intro w7 q7 g7
               replace r_t4 := gb_rowIs r_t4 g7 n_t4_t6
               have Bw3 := Bw.grown g7 (HGS.out _ Bw) (by intro k hk; cases hk; exact l_t6)
               clear Bw g7 r_t6 HS))
          go_roundw
          case rel => exact ⟨i + 1, by have := HIL.out; omega, by go_num, r_t4, q7, Bw3⟩
          case measure => (have := HIL.out; simp [intOf]; try omega)
    · obtain rfl : i = 256 := by omega
      replace r_t6 := pyF_congr (g := decV X d) r_t6 fun j hj => if_pos hj
      have Bw0 := Bw
      clear Bw
      go_wp2_with (first
        | (have hgo := Bw0; clear hgo
           refine wpList_load_as rfl 27 (.tmp 6) rfl 256 (pyF (decV X d)) arrPy r_t6 rfl (by omega) (fun i hi => by rw [Nat.zero_add]) ?_
           have Bw1 := Bw0
           clear Bw0)
        | (have hgo := Bw1; clear hgo
           refine wpList_store_as rfl 27 (.tmp 4) (.tmp 63) rfl 256 (pyF (decV X d)) arrPy r_t4 rfl rfl (by omega) (fun _ _ => rfl) (fun i hi => putN_whole hi) ?_
           intro w502 q gk
           replace r_t6 := gb_rowIs r_t6 gk (Ne.symm n_t4_t6)
           replace r_t4 := q
           have Bw2 := Bw1.grown gk (HGS.out _ Bw1) (by intro k hk; cases hk; exact l_t4)
           clear Bw1 gk q))
      exact ret_cell_as_tmp _ rfl arrPy r_t4 rfl rfl (by omega) (fun _ _ => rfl) rfl ⟨rfl, Bw2⟩
set_option maxHeartbeats 4000000 in
set_option maxRecDepth 20000 in
theorem refDecode12 (v1 : Value) (l1 : List UInt8) (w : World) (h1 : Bs w v1 l1) (hl : l1.length = 32 * 12) : Calls Try.prog 31 #[.int .i64 12, v1] w fun e w' => e = .returned (.tuple #[.agg (arrOf 256 (pyF (if mayN (decV (numL l1 (32 * 12)) 12) then decV (numL l1 (32 * 12)) 12 else fun _ => 0))), .int .i64 (if mayN (decV (numL l1 (32 * 12)) 12) then 0 else 2)]) ∧ Below w.heap.size w w' := by
  have Bw0 := Below.refl w.heap.size w
  have HGS : Hid (∀ wq : World, Below w.heap.size w wq → w.heap.size ≤ wq.heap.size) := Lib.hid fun wq h => h.size
  obtain ⟨L, hL⟩ := nat_var (32 * 12)
  rw [← hL] at hl
  obtain ⟨gb, ob, cb, rfl, hc1, hc2, hbl, hcells⟩ := h1.open_n (n := L) hl (by omega)
  have HB := Lib.hid fun W (hW : Below w.heap.size w W) i (hi : i < l1.length) => bs_cell (h1.below hW (Nat.le_refl _)) i hi
  have HLL := Lib.hid hl
  obtain ⟨X, hX⟩ := nat_var (numL l1 (32 * 12))
  rw [← hX]
  rw [← hL] at hX
  have HXB : Hid (∀ t, t / 8 < L → (l1.getD (t / 8) 0).toNat / 2 ^ (t % 8) % 2 = X / 2 ^ t % 2) := Lib.hid fun t ht => by rw [hX]; exact bitL_num l1 L t ht
  have hwL : (384 : Int) = (L : Int) := by omega
  obtain ⟨RF, hRF⟩ : ∃ F, F = (if mayN (decV X 12) then decV X 12 else fun _ => 0) := ⟨_, rfl⟩
  obtain ⟨RE, hRE⟩ : ∃ z : Int, z = (if mayN (decV X 12) then 0 else 2) := ⟨_, rfl⟩
  rw [← hRF, ← hRE]
  have HRF := Lib.hid hRF
  have HRE := Lib.hid hRE
  clear hRF hRE
  have HL := Lib.hid hL
  clear hX hL hl h1 hc1 hc2 hbl hcells
  go_enter Try.func31, Try.ntmps31
  go_wp2_with (first
    | (have hgo := Bw0; clear hgo
       refine wpList_alloc_row rfl 27 rfl 256 (pyF fun _ => 0) zeroPy ?_
       intro b_t4 w1 lk r_t4 kk
       have l_t4 := Nat.le_trans (HGS.out _ Bw0) lk
       have Bw1 := Bw0.trans (kk.mono (HGS.out _ Bw0))
       clear Bw0 kk lk)
    | (have hgo := Bw1; clear hgo
       refine wpList_alloc_row rfl 27 rfl 256 (pyF fun _ => 0) zeroPy ?_
       intro b_t6 w14 lk r_t6 kk
       have n_t4_t6 : b_t4 ≠ b_t6 := Nat.ne_of_lt (Nat.lt_of_lt_of_le (World.rowIs.lt r_t4) lk)
       have l_t6 := Nat.le_trans (HGS.out _ Bw1) lk
       replace r_t4 := World.rowIs.of_block r_t4 (kk.block _ (World.rowIs.lt r_t4))
       have Bw2 := Bw1.trans (kk.mono (HGS.out _ Bw1))
       clear Bw1 kk lk))
  go_loopw [7] (fun iv wr => ∃ i : Nat, i ≤ 256 ∧ iv = .int .i64 (i : Int) ∧ Hid (∀ j, j < i → decV X 12 j < 3329) ∧ wr.rowIs b_t4 27 256 (pyF fun _ => 0) ∧ wr.rowIs b_t6 27 256 (pyF fun j => if j < i then decV X 12 j else 0) ∧ Below w.heap.size w wr) (fun iv _ => 256 - (intOf iv).toNat)
  case atStart => exact ⟨0, Nat.zero_le _, rfl, Lib.hid (fun j hj => absurd hj (Nat.not_lt_zero j)), r_t4, pyF_congr r_t6 (fun j _ => (if_neg (Nat.not_lt_zero j)).symm), Bw2⟩
  case round =>
    clear r_t4 r_t6 Bw2
    obtain ⟨i, hi, rfl, HM, r_t4, r_t6, Bw⟩ := hrel
    by_cases hlt : i < 256
    · have hiI : 0 ≤ (i : Int) ∧ (i : Int) < 256 := by omega
      have HIL := Lib.hid hlt
      obtain ⟨t0, ht0⟩ := nat_var (12 * i)
      have ht0l : t0 ≤ 12 * 255 := by rw [ht0]; exact Nat.mul_le_mul_left _ (by omega)
      have hwt0 : IntKind.i64.wrap ((i : Int) * 12) = (t0 : Int) := by rw [show (i : Int) * 12 = (t0 : Int) by rw [ht0, Int.natCast_mul, Int.mul_comm]; try rfl, IntWalk.i64_in _ (by omega)]
      obtain ⟨Y, hY⟩ := nat_var (X / 2 ^ t0)
      have HY := Lib.hid hY
      have HT0 := Lib.hid ht0
      have HT0L := Lib.hid ht0l
      clear ht0l ht0 hY
      go_wp2
      go_loopw [8, 9] (fun vv kv wr => ∃ k v : Nat, k ≤ 12 ∧ Hid (v = Y % 2 ^ k) ∧ vv = .int .i64 (v : Int) ∧ kv = .int .i64 (k : Int) ∧ wr.rowIs b_t4 27 256 (pyF fun _ => 0) ∧ wr.rowIs b_t6 27 256 (pyF fun j => if j < i then decV X 12 j else 0) ∧ Below w.heap.size w wr) (fun _ kv _ => 12 - (intOf kv).toNat)
      case atStart => exact ⟨0, 0, Nat.zero_le _, Lib.hid (by rw [Nat.pow_zero, Nat.mod_one]), rfl, rfl, r_t4, r_t6, Bw⟩
      case round =>
        clear r_t4 r_t6 Bw
        obtain ⟨k, v, hk, HV, rfl, rfl, r_t4, r_t6, Bw⟩ := hrel
        by_cases hkl : k < 12
        · have hkI : (k : Int) < 12 := by omega
          have hk0 : 0 ≤ (k : Int) := by omega
          have hk64 : (k : Int) < 64 := by omega
          obtain ⟨t, ht⟩ := nat_var (t0 + k)
          have htl : t < 12 * 256 := by have := HT0L.out; omega
          have hwt : IntKind.i64.wrap ((t0 : Int) + (k : Int)) = (t : Int) := by rw [IntWalk.i64_in _ (by omega)]; omega
          obtain ⟨q, hq⟩ := nat_var (t / 8)
          obtain ⟨s, hs⟩ := nat_var (t % 8)
          have hql : q < L := by rw [HL.out]; omega
          have hcell := HB.out _ Bw q (by rw [HLL.out]; exact hql)
          rw [← getD_at l1 q (by rw [HLL.out]; exact hql)] at hcell
          obtain ⟨x, hx⟩ := nat_var (l1.getD q 0).toNat
          have hxl : x < 256 := by rw [hx]; exact UInt8.toNat_lt _
          rw [← hx] at hcell
          obtain ⟨e, he⟩ := nat_var (x / 2 ^ s)
          have hel : e < 256 := by rw [he]; exact Nat.lt_of_le_of_lt (Nat.div_le_self _ _) hxl
          obtain ⟨b, hb⟩ := nat_var (e % 2)
          have hbl : b ≤ 1 := by omega
          have hYb : Y / 2 ^ k % 2 = b := by rw [HY.out, Nat.div_div_eq_div_mul, ← Nat.pow_add, ← ht, ← HXB.out t (by omega), ← hq, ← hx, ← hs, ← he, ← hb]
          have hkp : 2 ^ k ≤ 2048 := Nat.le_trans (Nat.pow_le_pow_right (by decide) (show k ≤ 11 by omega)) (by decide)
          obtain ⟨y, hy⟩ := nat_var (b * 2 ^ k)
          have hyl : y ≤ 2048 := by rw [hy]; exact Nat.le_trans (Nat.mul_le_mul_right _ hbl) (by omega)
          obtain ⟨z, hz⟩ := nat_var (v + y)
          have hvl : v < 2 ^ k := by rw [HV.out]; exact Nat.mod_lt _ (Nat.pow_pos (by decide))
          have HZ : Hid (z = Y % 2 ^ (k + 1)) := Lib.hid (by rw [dec_step, ← HV.out, hYb, ← hy, hz])
          have hor := or_i64 v k b hvl hbl (by omega)
          rw [← hy, ← hz] at hor
          have hyI : (b : Int) * 2 ^ k = (y : Int) := by rw [hy, Int.natCast_mul, Int.natCast_pow]; rfl
          have hwy : IntKind.i64.wrap ((b : Int) * 2 ^ k) = (y : Int) := by rw [hyI, IntWalk.i64_in _ (by omega)]
          have hwb : IntKind.i64.wrap (b : Int) = (b : Int) := IntWalk.i64_in _ (by omega)
          have hquo : IntKind.i64.wrap ((t : Int).tdiv 8) = (q : Int) := by rw [Int.tdiv_eq_ediv_of_nonneg (by omega), IntWalk.i64_in _ (by omega)]; omega
          have hquo2 : IntKind.i64.wrap ((t : Int) / 8) = (q : Int) := by rw [IntWalk.i64_in _ (by omega)]; omega
          have hrem : IntKind.i64.wrap ((t : Int).tmod 8) = (s : Int) := by rw [Int.tmod_eq_emod_of_nonneg (by omega), IntWalk.i64_in _ (by omega)]; omega
          have hrem2 : (t : Int).tmod 8 = (s : Int) := by rw [Int.tmod_eq_emod_of_nonneg (by omega)]; omega
          have hqI : 0 ≤ (q : Int) ∧ (q : Int) < (L : Int) := by omega
          have HE := Lib.hid he
          have HS8 : Hid (s < 8) := Lib.hid (by omega)
          have HXL := Lib.hid hxl
          have HBB := Lib.hid hb
          have HEL := Lib.hid hel
          have HKL := Lib.hid hkl
          clear hYb hy hz he hb hq hs hx hxl hel hbl hql ht htl hkl hkp hyl hvl hyI
          go_wp2_with (first
            | refine wpList_shr8 rfl (.tmp 43) (.tmp 45) rfl rfl rfl HE.out HS8.out HXL.out ?_
            | refine wpList_and1 rfl (.tmp 46) (.const (.int .u8 1)) rfl rfl rfl HBB.out HEL.out ?_)
          go_roundw
          case rel => exact ⟨k + 1, z, HKL.out, HZ, rfl, by have := HKL.out; go_num, r_t4, r_t6, Bw⟩
          case measure => (have := HKL.out; simp [intOf]; try omega)
        · obtain rfl : k = 12 := by omega
          have hdv : decV X 12 i = v := by rw [HV.out, HY.out, HT0.out]; rfl
          have hvl : v < 4096 := by rw [← hdv]; exact Nat.lt_of_lt_of_le (decV_lt X 12 i) (by decide)
          by_cases hv3 : v < 3329
          · have hv3I : ¬ (3329 : Int) ≤ (v : Int) := by omega
            have hwv := u16_in v (by omega)
            have HS : Hid (∀ j, j < 256 → (fun j => if j < i + 1 then decV X 12 j else 0) j = if j = i then v else (fun j => if j < i then decV X 12 j else 0) j) := Lib.hid fun j hj => by
              show (if j < i + 1 then decV X 12 j else 0) = if j = i then v else if j < i then decV X 12 j else 0
              by_cases e : j = i
              · subst e; rw [if_pos (Nat.lt_succ_self j), if_pos rfl, hdv]
              · rw [if_neg e]
                by_cases h3 : j < i
                · rw [if_pos h3, if_pos (by omega)]
                · rw [if_neg h3, if_neg (by omega)]
            have HM2 : Hid (∀ j, j < i + 1 → decV X 12 j < 3329) := Lib.hid fun j hj => by
              by_cases e : j = i
              · subst e; rw [hdv]; exact hv3
              · exact HM.out j (by omega)
            clear hdv
            go_wp2_with (first
              | (refine wpList_store_py rfl (.tmp 62) (.tmp 61) rfl (fun j => if j < i + 1 then decV X 12 j else 0) r_t6 HIL.out rfl rfl HS.out ?_
                 intro w7 q7 g7
                 replace r_t4 := gb_rowIs r_t4 g7 n_t4_t6
                 have Bw3 := Bw.grown g7 (HGS.out _ Bw) (by intro k hk; cases hk; exact l_t6)
                 clear Bw g7 r_t6 HS))
            go_roundw
            case rel => exact ⟨i + 1, by have := HIL.out; omega, by go_num, HM2, r_t4, q7, Bw3⟩
            case measure => (have := HIL.out; simp [intOf]; try omega)
          · have hv3I : (3329 : Int) ≤ (v : Int) := by omega
            have hno : mayN (decV X 12) = false := mayN_no HIL.out (by rw [hdv]; exact hv3)
            have hrf : RF = fun _ => 0 := by rw [HRF.out, hno]; rfl
            have hre : RE = 2 := by rw [HRE.out, hno]; rfl
            subst hrf
            subst hre
            clear hdv hvl hno
            go_wp2_with (first
              | refine wpList_build_arr rfl 27 #[] rfl (arrOf 256 (pyF fun _ => 0)) (by simp only [List.map_toArray, List.map_cons, List.map_nil]; exact builtPy0) ?_
              | (refine wpList_store_as rfl 27 (.tmp 4) (.tmp 58) rfl 256 (pyF fun _ => 0) arrPy r_t4 rfl rfl (by omega) (fun _ _ => rfl) (fun i hi => putN_whole hi) ?_
                 intro w7 q7 g7
                 have Bw3 := Bw.grown g7 (HGS.out _ Bw) (by intro k hk; cases hk; exact l_t4)
                 clear Bw g7 r_t4))
            exact ret_cell_as_tmp _ rfl arrPy q7 rfl rfl (by omega) (fun _ _ => rfl) rfl ⟨rfl, Bw3⟩
    · obtain rfl : i = 256 := by omega
      have hyes : mayN (decV X 12) = true := mayN_yes HM.out
      have hrf : RF = decV X 12 := by rw [HRF.out, hyes]; rfl
      have hre : RE = 0 := by rw [HRE.out, hyes]; rfl
      subst hrf
      subst hre
      clear hyes
      replace r_t6 := pyF_congr (g := decV X 12) r_t6 fun j hj => if_pos hj
      have Bw0 := Bw
      clear Bw
      go_wp2_with (first
        | (have hgo := Bw0; clear hgo
           refine wpList_load_as rfl 27 (.tmp 6) rfl 256 (pyF (decV X 12)) arrPy r_t6 rfl (by omega) (fun i hi => by rw [Nat.zero_add]) ?_
           have Bw1 := Bw0
           clear Bw0)
        | (have hgo := Bw1; clear hgo
           refine wpList_store_as rfl 27 (.tmp 4) (.tmp 63) rfl 256 (pyF (decV X 12)) arrPy r_t4 rfl rfl (by omega) (fun _ _ => rfl) (fun i hi => putN_whole hi) ?_
           intro w502 q gk
           replace r_t6 := gb_rowIs r_t6 gk (Ne.symm n_t4_t6)
           replace r_t4 := q
           have Bw2 := Bw1.grown gk (HGS.out _ Bw1) (by intro k hk; cases hk; exact l_t4)
           clear Bw1 gk q))
      exact ret_cell_as_tmp _ rfl arrPy r_t4 rfl rfl (by omega) (fun _ _ => rfl) rfl ⟨rfl, Bw2⟩
set_option maxHeartbeats 4000000 in
set_option maxRecDepth 20000 in
theorem refDecode_small (d : Int) (v1 : Value) (l1 : List UInt8) (w : World) (h1 : Bs w v1 l1) (hd : d < 1) : Calls Try.prog 31 #[.int .i64 d, v1] w fun e w' => e = .returned (.tuple #[.agg (arrOf 256 (pyF fun _ => 0)), .int .i64 1]) ∧ Below w.heap.size w w' := by
  have Bw0 := Below.refl w.heap.size w
  have HGS : Hid (∀ wq : World, Below w.heap.size w wq → w.heap.size ≤ wq.heap.size) := Lib.hid fun wq h => h.size
  obtain ⟨ad1, n1, c1, rfl, e1, y1, z1, hB1⟩ := h1.shape
  clear h1 hB1 e1
  go_enter Try.func31, Try.ntmps31
  go_wp2_with (first
    | (have hgo := Bw0; clear hgo
       refine wpList_alloc_row rfl 27 rfl 256 (pyF fun _ => 0) zeroPy ?_
       intro b_t4 w1 lk r_t4 kk
       have l_t4 := Nat.le_trans (HGS.out _ Bw0) lk
       have Bw1 := Bw0.trans (kk.mono (HGS.out _ Bw0))
       clear Bw0 kk lk)
    | (have hgo := Bw1; clear hgo
       refine wpList_build_arr rfl 27 #[] rfl (arrOf 256 (pyF (fun _ => 0))) (by simp only [List.map_toArray, List.map_cons, List.map_nil]; exact builtPy0) ?_
       have Bw2 := Bw1
       clear Bw1)
    | (have hgo := Bw2; clear hgo
       refine wpList_store_as rfl 27 (.tmp 4) (.tmp 17) rfl 256 (pyF (fun _ => 0)) arrPy r_t4 rfl rfl (by omega) (fun _ _ => rfl) (fun i hi => putN_whole hi) ?_
       intro w10 q gk
       replace r_t4 := q
       have Bw3 := Bw2.grown gk (HGS.out _ Bw2) (by intro k hk; cases hk; exact l_t4)
       clear Bw2 gk q))
  exact ret_cell_as_tmp _ rfl arrPy r_t4 rfl rfl (by omega) (fun _ _ => rfl) rfl ⟨rfl, Bw3⟩
set_option maxHeartbeats 4000000 in
set_option maxRecDepth 20000 in
theorem refDecode_great (d : Int) (v1 : Value) (l1 : List UInt8) (w : World) (h1 : Bs w v1 l1) (hd : 12 < d) : Calls Try.prog 31 #[.int .i64 d, v1] w fun e w' => e = .returned (.tuple #[.agg (arrOf 256 (pyF fun _ => 0)), .int .i64 1]) ∧ Below w.heap.size w w' := by
  have Bw0 := Below.refl w.heap.size w
  have HGS : Hid (∀ wq : World, Below w.heap.size w wq → w.heap.size ≤ wq.heap.size) := Lib.hid fun wq h => h.size
  have hd3 : ¬ d < 1 := by omega
  obtain ⟨ad1, n1, c1, rfl, e1, y1, z1, hB1⟩ := h1.shape
  clear h1 hB1 e1
  go_enter Try.func31, Try.ntmps31
  go_wp2_with (first
    | (have hgo := Bw0; clear hgo
       refine wpList_alloc_row rfl 27 rfl 256 (pyF fun _ => 0) zeroPy ?_
       intro b_t4 w1 lk r_t4 kk
       have l_t4 := Nat.le_trans (HGS.out _ Bw0) lk
       have Bw1 := Bw0.trans (kk.mono (HGS.out _ Bw0))
       clear Bw0 kk lk)
    | (have hgo := Bw1; clear hgo
       refine wpList_build_arr rfl 27 #[] rfl (arrOf 256 (pyF (fun _ => 0))) (by simp only [List.map_toArray, List.map_cons, List.map_nil]; exact builtPy0) ?_
       have Bw2 := Bw1
       clear Bw1)
    | (have hgo := Bw2; clear hgo
       refine wpList_store_as rfl 27 (.tmp 4) (.tmp 17) rfl 256 (pyF (fun _ => 0)) arrPy r_t4 rfl rfl (by omega) (fun _ _ => rfl) (fun i hi => putN_whole hi) ?_
       intro w10 q gk
       replace r_t4 := q
       have Bw3 := Bw2.grown gk (HGS.out _ Bw2) (by intro k hk; cases hk; exact l_t4)
       clear Bw2 gk q))
  exact ret_cell_as_tmp _ rfl arrPy r_t4 rfl rfl (by omega) (fun _ _ => rfl) rfl ⟨rfl, Bw3⟩
set_option maxHeartbeats 4000000 in
set_option maxRecDepth 20000 in
theorem refDecode_length (d : Int) (v1 : Value) (l1 : List UInt8) (w : World) (h1 : Bs w v1 l1) (hd1 : 1 ≤ d) (hd2 : d ≤ 12) (hl : (l1.length : Int) ≠ 32 * d) : Calls Try.prog 31 #[.int .i64 d, v1] w fun e w' => e = .returned (.tuple #[.agg (arrOf 256 (pyF fun _ => 0)), .int .i64 2]) ∧ Below w.heap.size w w' := by
  have Bw0 := Below.refl w.heap.size w
  have HGS : Hid (∀ wq : World, Below w.heap.size w wq → w.heap.size ≤ wq.heap.size) := Lib.hid fun wq h => h.size
  have hd3 : ¬ d < 1 := by omega
  obtain ⟨ad1, n1, c1, rfl, e1, y1, z1, hB1⟩ := h1.shape
  have hd4 : ¬ 12 < d := by omega
  obtain ⟨z, hz⟩ : ∃ z, z = 32 * d := ⟨_, rfl⟩
  have hwz : IntKind.i64.wrap (32 * d) = z := by rw [IntWalk.i64_in _ (by omega)]; omega
  have hnz : ¬ (n1 : Int) = z := by omega
  clear hz
  clear h1 hB1 e1
  go_enter Try.func31, Try.ntmps31
  go_wp2_with (first
    | (have hgo := Bw0; clear hgo
       refine wpList_alloc_row rfl 27 rfl 256 (pyF fun _ => 0) zeroPy ?_
       intro b_t4 w1 lk r_t4 kk
       have l_t4 := Nat.le_trans (HGS.out _ Bw0) lk
       have Bw1 := Bw0.trans (kk.mono (HGS.out _ Bw0))
       clear Bw0 kk lk)
    | (have hgo := Bw1; clear hgo
       refine wpList_build_arr rfl 27 #[] rfl (arrOf 256 (pyF (fun _ => 0))) (by simp only [List.map_toArray, List.map_cons, List.map_nil]; exact builtPy0) ?_
       have Bw2 := Bw1
       clear Bw1)
    | (have hgo := Bw2; clear hgo
       refine wpList_store_as rfl 27 (.tmp 4) (.tmp 23) rfl 256 (pyF (fun _ => 0)) arrPy r_t4 rfl rfl (by omega) (fun _ _ => rfl) (fun i hi => putN_whole hi) ?_
       intro w15 q gk
       replace r_t4 := q
       have Bw3 := Bw2.grown gk (HGS.out _ Bw2) (by intro k hk; cases hk; exact l_t4)
       clear Bw2 gk q))
  exact ret_cell_as_tmp _ rfl arrPy r_t4 rfl rfl (by omega) (fun _ _ => rfl) rfl ⟨rfl, Bw3⟩
end Go.Proofs.Ytnpifjimmeehdaa

/- The program's polynomials: written as bytes. -/
namespace Go.Proofs.Ytnpifjimmeehdaa
open Go.RowKit Go.Deep
set_option linter.unusedSimpArgs false
set_option linter.unusedVariables false

theorem litB_next (V k : Nat) : litB V (k + 1) = litB V k ++ [UInt8.ofNat (V / 256 ^ k)] := by
  unfold litB
  rw [List.range_succ, List.map_append]
  show _ ++ [UInt8.ofNat (V / 2 ^ (8 * k))] = _
  rw [p256]
theorem litB_add (X Y k : Nat) : litB (X + 256 ^ k * Y) k = litB X k := by
  refine List.ext_getElem (by simp [litB_length]) fun i h1 h2 => ?_
  rw [litB_length] at h1
  apply UInt8.toNat_inj.1
  rw [litB_el_nat, litB_el_nat]
  obtain ⟨m, rfl⟩ : ∃ m, k = i + (m + 1) := ⟨k - i - 1, by omega⟩
  rw [Nat.pow_add, Nat.mul_assoc, Nat.add_mul_div_left _ _ (p256_pos i), Nat.pow_succ, Nat.mul_comm (256 ^ m) 256, Nat.mul_assoc, Nat.add_mul_mod_self_left]
/-- One more number. -/
theorem enc_next (T v d i k c : Nat) (hT : T < 2 ^ (d * i)) (hc : 8 * k + c = d * i) : T / 256 ^ k < 2 ^ c ∧ (T + 2 ^ (d * i) * v) / 256 ^ k = T / 256 ^ k + 2 ^ c * v ∧ litB (T + 2 ^ (d * i) * v) k = litB T k := by
  have e : 2 ^ (d * i) = 256 ^ k * 2 ^ c := by rw [← hc, Nat.pow_add, p256]
  rw [e] at hT ⊢
  refine ⟨Nat.div_lt_of_lt_mul hT, ?_, ?_⟩
  · rw [Nat.mul_assoc, Nat.add_mul_div_left _ _ (p256_pos k)]
  · rw [Nat.mul_assoc, litB_add]
theorem or_u32 (a k b : Nat) (ha : a < 2 ^ k) (hb : b < 65536) (hk : k ≤ 12) : bits .or .u32 (a : Int) ((2 ^ k * b : Nat) : Int) = ((a + 2 ^ k * b : Nat) : Int) := by
  have hp : 2 ^ k ≤ 2 ^ 12 := Nat.pow_le_pow_right (by decide) hk
  have hbp : 2 ^ k * b ≤ 2 ^ 12 * 65535 := Nat.mul_le_mul hp (by omega)
  have e : ((BitVec.ofNat 32 a) ||| (BitVec.ofNat 32 (2 ^ k * b))).toNat = a + 2 ^ k * b := by
    rw [BitVec.toNat_or, BitVec.toNat_ofNat, BitVec.toNat_ofNat, Nat.mod_eq_of_lt (by omega), Nat.mod_eq_of_lt (by omega), Nat.or_comm, ← Nat.two_pow_add_eq_or_of_lt ha, Nat.add_comm]
  show IntKind.u32.wrap (((BitVec.ofInt 32 (a : Int)) ||| (BitVec.ofInt 32 ((2 ^ k * b : Nat) : Int))).toNat : Int) = _
  rw [ofInt_nat32, ofInt_nat32, e, u32_in _ (by omega)]
theorem run_make0 (n : Nat) (hn : n ≤ 1000000) (w : World) : (Instr.makeSlice 36 (.int .i64 0) (.int .i64 (n : Int))).run Try.prog w = .ok (.slice (some ⟨w.heap.size, 0, none⟩) 0 n) (w.alloc (.cells (madeCells #[.int .u8 0] n) 5)) := by
  obtain ⟨i, hi, hzz⟩ := Option.map_eq_some_iff.1 (show (Try.prog.info? 5).map (fun i => (i.zero, i.size, i.bytes)) = some (some (.int .u8 0), 1, 1) from Try.info5)
  simp only [Prod.mk.injEq] at hzz
  obtain ⟨hz, hs, hb⟩ := hzz
  have hr := run_make (P := Try.prog) w 36 5 i (.int .u8 0) Try.underlying36 hi hz .i64 .i64 0 (n : Int) (by decide) (by omega) (by rw [hb]; omega) (by omega)
  simp only [Int.toNat_natCast, hs, Nat.mul_one] at hr
  exact hr
theorem wpList_make0 {ops : Array Oper} {rest : List Oper} {o : Oper} {a : Act} {w : World} {Q : Exit → Act → World → Prop} (hgd : o.guard = none) (x : Operand) (ho : o.op = .makeSlice 36 (.const (.int .i64 0)) x) (n : Nat) (hx : a.eval x = .int .i64 (n : Int)) (hn : n ≤ 1000000)
    (h : ∀ b v w', w.heap.size ≤ b → b < w'.heap.size → Owns w' b v [] → Below w.heap.size w w' → wpList Try.prog ops Q rest (a.put o.dst v) w') : wpList Try.prog ops Q (o :: rest) a w := by
  have hr := run_make0 n hn w
  have hx' : (execOp a.eval (mkOp (.makeSlice 36 (.const (.int .i64 0)) x) o.type)).run Try.prog w = .ok (.value (.slice (some ⟨w.heap.size, 0, none⟩) 0 n)) (w.alloc (.cells (madeCells #[.int .u8 0] n) 5)) := by
    simp [execOp, mkOp, hx, hr, Result.andThen, eval_const]
  exact wpList_plain hgd fun _ hK => by
    unfold Oper.wp
    rw [exec_mkOp, ho, hx']
    exact hK _ _ (h _ _ _ (Nat.le_refl _) (by simp) (World.ownsRow_made w _ n (Nat.le_refl _) (by unfold maxLen; omega) (by simp [madeCells])) ((Below.refl _ _).alloc (Nat.le_refl _) _))
theorem run_eqlI (a b : Int) (v : Bool) (h : decide (a = b) = v) (w : World) : (binOp .eql 3 (.int .i64 a) (.int .i64 b)).run Try.prog w = .ok (.bool v) w := by
  subst h
  go_simp
  exact Bool.eq_iff_iff.2 (by simp)
theorem run_shlU (a c : Nat) (k : Nat) (hk : k ≤ 32) (h : c = 2 ^ k * a) (hc : c < 4294967296) (w : World) : (binOp .shl 60 (.int .u32 (a : Int)) (.int .i64 (k : Int))).run Try.prog w = .ok (.int .u32 (c : Int)) w := by
  have e : (2 : Int) ^ k = ((2 ^ k : Nat) : Int) := by rw [Int.natCast_pow]; rfl
  have h1 : IntKind.u32.wrap ((a : Int) * 2 ^ k) = (c : Int) := by rw [e, ← Int.natCast_mul, Nat.mul_comm, ← h, u32_in _ hc]
  have h0 : 0 ≤ (k : Int) := by omega
  have h2 : ¬ (k : Int) < 0 := by omega
  have h3 : (k : Int) < 64 := by omega
  clear h e
  go_simp
  try rw [Nat.min_eq_left hk]
  try exact h1
set_option maxHeartbeats 4000000 in
set_option maxRecDepth 20000 in
theorem rEncodeD (f : Nat → Nat) (d : Nat) (w : World) (hf : ∀ i, f i < 65536) (hd : 1 ≤ d ∧ d < 12) : Calls Try.prog 28 #[.agg (arrOf 256 (pyF f)), .int .i64 (d : Int)] w fun e w' => ∃ v, e = .returned (.tuple #[v, .int .i64 0]) ∧ Owns w' w.heap.size v (encL f d) ∧ Below w.heap.size w w' := by
  have Bw0 := Below.refl w.heap.size w
  have HGS : Hid (∀ wq : World, Below w.heap.size w wq → w.heap.size ≤ wq.heap.size) := Lib.hid fun wq h => h.size
  have Hf := Lib.hid hf
  have hd1 : 1 ≤ d := by omega
  have hd2 : d ≤ 12 := by omega
  have hd3 : ¬ (d : Int) < 1 := by omega
  have hd4 : ¬ 12 < (d : Int) := by omega
  have rE := run_eqlI (d : Int) 12 false (decide_eq_false (by omega))
  obtain ⟨L, hL⟩ := nat_var (32 * d)
  have hwL : IntKind.i64.wrap (32 * (d : Int)) = (L : Int) := by rw [IntWalk.i64_in _ (by omega)]; omega
  have HL := Lib.hid hL
  have HD : Hid (d ≤ 12 ∧ 1 ≤ d) := Lib.hid ⟨hd2, hd1⟩
  have HDD := Lib.hid hd
  replace rE := Lib.hid rE
  clear hf hL hd1 hd2 hd
  go_enter Try.func28, Try.ntmps28
  go_wp2_with (first
    | (have hgo := Bw0; clear hgo
       refine wpList_box_row rfl 26 (.tmp 0) rfl 256 (pyF f) rfl ?_
       intro b_t2 w1 lk r_t2 kk
       have l_t2 := zrl HGS Bw0 lk
       have Bw1 := zbt HGS Bw0 kk
       clear Bw0 kk lk)
    | (have hgo := Bw1; clear hgo
       refine wpList_make0 rfl (.tmp 18) rfl L (by first | rfl | (rw [← hwL]; rfl)) (by have := HL.out; have := HD.out; omega) ?_
       intro g v_o w4 lk lk2 oc kk
       have l_g := Nat.le_trans (HGS.out _ Bw1) lk
       replace r_t2 := zrb r_t2 kk
       have Bw9 := zbt HGS Bw1 kk
       clear Bw1 kk lk)
    | (have hgo := Bw9; clear hgo
       refine wpList_load_as rfl 26 (.tmp 2) rfl 256 (pyF f) arrP r_t2 rfl (by omega) (fun i hi => by rw [Nat.zero_add]) ?_
       have Bw10 := Bw9
       clear Bw9 r_t2))
  have HG := Lib.hid l_g
  clear l_g
  go_loopw [6, 7, 8, 21] (fun out hv cv iv wr => ∃ i k c h : Nat, i ≤ 256 ∧ Hid (8 * k + c = d * i ∧ c < 8) ∧ Hid (h = pk (vvN f d) d i / 256 ^ k) ∧ iv = .int .i64 (i : Int) ∧ cv = .int .i64 (c : Int) ∧ hv = .int .u32 (h : Int) ∧ Owns wr g out (litB (pk (vvN f d) d i) k) ∧ g < wr.heap.size ∧ Below w.heap.size w wr) (fun _ _ _ iv _ => 256 - (intOf iv).toNat)
  case atStart => exact ⟨0, 0, 0, 0, Nat.zero_le _, Lib.hid ⟨by omega, by decide⟩, Lib.hid (Nat.zero_div _).symm, rfl, rfl, rfl, oc, lk2, Bw10⟩
  case round =>
    clear oc lk2 Bw10
    obtain ⟨i, k, c, h, hi, HC, HH, rfl, rfl, rfl, oc, hgs, Bw⟩ := hrel
    by_cases hlt : i < 256
    · have hiI : 0 ≤ (i : Int) ∧ (i : Int) < 256 := by omega
      have HI := Lib.hid hlt
      obtain ⟨x, hx⟩ := nat_var (f i)
      have hxl : x < 65536 := by rw [hx]; exact Hf.out i
      have HX := Lib.hid hx.symm
      obtain ⟨v, hv⟩ := nat_var (vvN f d i)
      obtain ⟨hcd, hc8⟩ := HC.out
      obtain ⟨y, hy⟩ : ∃ y, y = x := ⟨x, rfl⟩
      subst hy
      have hvy : v = y % 2 ^ d := by rw [hv, vvN, if_neg (by have := HDD.out; omega), hx]
      have hyl : y < 65536 := by omega
      have hyw : IntKind.u32.wrap (y : Int) = (y : Int) := u32_in y (by omega)
      have hd12 := HD.out
      have HLOW := Lib.hid fun w => low_any y d v w (by omega) (by omega) hvy
      have hvl : v < 65536 := by rw [hvy]; exact Nat.lt_of_le_of_lt (Nat.mod_le _ _) hyl
      have hvw : IntKind.u32.wrap (v : Int) = (v : Int) := u32_in v (by omega)
      obtain ⟨T, hT⟩ := nat_var (pk (vvN f d) d i)
      obtain ⟨T2, hT2⟩ := nat_var (pk (vvN f d) d (i + 1))
      have hTT : T2 = T + 2 ^ (d * i) * v := by rw [hT2, hT, hv, pk, Nat.mul_comm]
      obtain ⟨e1, e2, e3⟩ := enc_next T v d i k c (by rw [hT]; exact pk_lt _ _ (vvN_lt f d) i) hcd
      rw [← hTT] at e2 e3
      have hh0 := HH.out
      rw [← hT] at hh0
      rw [← hh0] at e1 e2
      obtain ⟨s, hs⟩ := nat_var (2 ^ c * v)
      obtain ⟨h2, hh2⟩ := nat_var (h + s)
      have hp8 : 2 ^ c ≤ 2 ^ 7 := Nat.pow_le_pow_right (by decide) (by omega)
      have hsl : s ≤ 2 ^ 7 * 65535 := by rw [hs]; exact Nat.mul_le_mul hp8 (by omega)
      have rS := run_shlU v s c (by omega) hs (by omega)
      have hor := or_u32 h c v e1 hvl (by omega)
      rw [← hs, ← hh2] at hor
      have HH2 : Hid (h2 = T2 / 256 ^ k) := Lib.hid (by rw [hh2, hs, e2])
      have hol : litB (pk (vvN f d) d i) k = litB T2 k := by rw [← hT, e3]
      rw [hol] at oc
      obtain ⟨c2, hc2⟩ := nat_var (c + d)
      have hwc2 : IntKind.i64.wrap ((c : Int) + (d : Int)) = (c2 : Int) := by rw [IntWalk.i64_in _ (by omega)]; omega
      have HC2 : Hid (8 * k + c2 = d * (i + 1) ∧ c2 ≤ 20) := Lib.hid ⟨by rw [Nat.mul_succ]; omega, by omega⟩
      have HT2 := Lib.hid hT2
      have HTB : Hid (T2 < 2 ^ (d * (i + 1))) := Lib.hid (by rw [hT2]; exact pk_lt _ _ (vvN_lt f d) (i + 1))
      have hh2w : IntKind.u32.wrap (h2 : Int) = (h2 : Int) := u32_in h2 (by omega)
      clear hx hv hvy hyl hd12 hvl hT hT2 hTT e1 e2 e3 hh0 hs hh2 hp8 hsl hol hc2 hcd hc8 HC HH hi hlt hxl
      replace rS := Lib.hid rS
      go_wp2_with (first
        | (have hgo := HX; clear hgo
           refine wpList_index_py rfl (.tmp 20) (.tmp 21) rfl HI.out rfl rfl HX.out ?_
           clear HX)
        | (refine wpList_binR (o := ⟨some 25, _, _, _, _, _⟩) rfl .eql 3 3 _ _ rfl (fun _ => rfl) rE.out rfl rfl ?_)
        | (have hgo := HLOW; clear hgo
           go_at_call 45
           refine (HLOW.out _).mono ?_
           rintro e w5 ⟨rfl, rfl⟩
           clear HLOW)
        | (have hgo := rS; clear hgo
           refine wpList_binR (o := ⟨some 35, _, _, _, _, _⟩) rfl .shl 60 3 _ _ rfl (fun _ => rfl) rS.out rfl rfl ?_
           clear rS))
      go_loopw [6, 7, 8] (fun out hv cv wr => ∃ k c h : Nat, Hid (8 * k + c = d * (i + 1) ∧ c ≤ 20) ∧ Hid (h = T2 / 256 ^ k) ∧ cv = .int .i64 (c : Int) ∧ hv = .int .u32 (h : Int) ∧ Owns wr g out (litB T2 k) ∧ g < wr.heap.size ∧ Below w.heap.size w wr) (fun _ _ cv _ => (intOf cv).toNat)
      case atStart => exact ⟨k, c2, h2, HC2, HH2, rfl, rfl, oc, hgs, Bw⟩
      case round =>
        clear oc hgs Bw
        obtain ⟨k, c, h, HC, HH, rfl, rfl, oc, hgs, Bw⟩ := hrel
        by_cases h8 : 8 ≤ c
        · have h8I : (8 : Int) ≤ (c : Int) := by omega
          obtain ⟨hcd, hc20⟩ := HC.out
          have hhl : h < 1048576 := by
            have hl := HTB.out
            rw [show d * (i + 1) = 8 * k + c from hcd.symm, Nat.pow_add, ← p256] at hl
            have := Nat.div_lt_of_lt_mul hl
            rw [← HH.out] at this
            exact Nat.lt_of_lt_of_le this (Nat.pow_le_pow_right (by decide) hc20)
          obtain ⟨b, hb⟩ := nat_var (h % 256)
          have hbw : IntKind.u8.wrap (h : Int) = (b : Int) := by rw [IntKind.wrap_u8]; omega
          have HB1 : Hid ((b : Int) = ((UInt8.ofNat h).toNat : Int)) := Lib.hid (by rw [hb, UInt8.toNat_ofNat'])
          obtain ⟨h3, hh3⟩ := nat_var (h / 256)
          have hh4 : (h : Int) / 256 = (h3 : Int) := by omega
          have hh5 : IntKind.u32.wrap ((h : Int) / 256) = (h3 : Int) := by rw [hh4, u32_in _ (by omega)]
          have hh6 : IntKind.u32.wrap (h3 : Int) = (h3 : Int) := u32_in _ (by omega)
          obtain ⟨c3, hc3⟩ := nat_var (c - 8)
          have hwc3 : IntKind.i64.wrap ((c : Int) - 8) = (c3 : Int) := by rw [IntWalk.i64_in _ (by omega)]; omega
          have HC3 : Hid (8 * (k + 1) + c3 = d * (i + 1) ∧ c3 ≤ 20) := Lib.hid ⟨by omega, by omega⟩
          have HH3 : Hid (h3 = T2 / 256 ^ (k + 1)) := Lib.hid (by rw [hh3, HH.out, Nat.div_div_eq_div_mul, Nat.pow_succ])
          have HN : Hid (litB T2 k ++ [UInt8.ofNat h] = litB T2 (k + 1)) := Lib.hid (by rw [litB_next, HH.out])
          have HMS : Hid (c3 < c) := Lib.hid (by omega)
          have HKL : Hid (k ≤ 1000) := Lib.hid (by have h1 := HI.out; have h2 := HD.out; have := Nat.mul_le_mul h2.1 (show i + 1 ≤ 256 from h1); omega)
          clear hcd hc20 hhl hb hh3 hc3 h8
          go_wp2_with (first
            | (have hgo := HB1; clear hgo
               refine wpList_app rfl (.tmp 44) (.tmp 47) rfl g _ _ (litB T2 k) [UInt8.ofNat h] (Owns.alloc oc _) (bs_oneI _ _ _ HB1.out) rfl rfl (by rw [litB_length]; have := HKL.out; simp; omega) (by simp; omega) ?_
               intro v6 w6 oc6 g6
               rw [HN.out] at oc6
               have hgs6 : g < w6.heap.size := Nat.lt_of_lt_of_le (Nat.lt_trans hgs (by simp)) g6.size
               have Bw6 := (Bw.alloc (HGS.out _ Bw) _).grown g6 (HGS.out _ (Bw.alloc (HGS.out _ Bw) _)) (fun k hk => Nat.le_trans HG.out (Owns.block oc k hk))
               clear HB1 oc Bw g6 hgs))
          go_roundw
          case rel => exact ⟨k + 1, c3, h3, HC3, HH3, rfl, rfl, oc6, hgs6, Bw6⟩
          case measure => (have := HMS.out; simp [intOf]; try omega)
        · have h8I : ¬ (8 : Int) ≤ (c : Int) := by omega
          have HC4 : Hid (8 * k + c = d * (i + 1) ∧ c < 8) := Lib.hid ⟨HC.out.1, by omega⟩
          have HI2 : Hid (i + 1 ≤ 256) := Lib.hid HI.out
          rw [HT2.out] at oc
          have HH4 := Lib.hid (HT2.out ▸ HH.out)
          go_wp2
          go_roundw
          case rel => exact ⟨i + 1, k, c, h, HI2.out, HC4, HH4, by go_num, rfl, rfl, oc, hgs, Bw⟩
          case measure => (have := HI2.out; simp [intOf]; try omega)
    · obtain rfl : i = 256 := by omega
      obtain ⟨hcd, hc8⟩ := HC.out
      have hkL : k = 32 * d := by omega
      rw [hkL] at oc
      have oc2 : Owns wr g _ (encL f d) := oc
      clear oc HC HH hcd hc8 hkL
      go_wp2
      go_ret2
      exact ⟨_, rfl, Owns.lower oc2 HG.out, Bw⟩
set_option maxHeartbeats 4000000 in
set_option maxRecDepth 20000 in
theorem rEncode12 (f : Nat → Nat) (d : Nat) (w : World) (hf : ∀ i, f i < 65536) (hd : d = 12) : Calls Try.prog 28 #[.agg (arrOf 256 (pyF f)), .int .i64 (d : Int)] w fun e w' => ∃ v, e = .returned (.tuple #[v, .int .i64 0]) ∧ Owns w' w.heap.size v (encL f d) ∧ Below w.heap.size w w' := by
  have Bw0 := Below.refl w.heap.size w
  have HGS : Hid (∀ wq : World, Below w.heap.size w wq → w.heap.size ≤ wq.heap.size) := Lib.hid fun wq h => h.size
  have Hf := Lib.hid hf
  have hd1 : 1 ≤ d := by omega
  have hd2 : d ≤ 12 := by omega
  have hd3 : ¬ (d : Int) < 1 := by omega
  have hd4 : ¬ 12 < (d : Int) := by omega
  have rE := run_eqlI (d : Int) 12 true (decide_eq_true (by omega))
  obtain ⟨L, hL⟩ := nat_var (32 * d)
  have hwL : IntKind.i64.wrap (32 * (d : Int)) = (L : Int) := by rw [IntWalk.i64_in _ (by omega)]; omega
  have HL := Lib.hid hL
  have HD : Hid (d ≤ 12 ∧ 1 ≤ d) := Lib.hid ⟨hd2, hd1⟩
  have HDD := Lib.hid hd
  replace rE := Lib.hid rE
  clear hf hL hd1 hd2 hd
  go_enter Try.func28, Try.ntmps28
  go_wp2_with (first
    | (have hgo := Bw0; clear hgo
       refine wpList_box_row rfl 26 (.tmp 0) rfl 256 (pyF f) rfl ?_
       intro b_t2 w1 lk r_t2 kk
       have l_t2 := zrl HGS Bw0 lk
       have Bw1 := zbt HGS Bw0 kk
       clear Bw0 kk lk)
    | (have hgo := Bw1; clear hgo
       refine wpList_make0 rfl (.tmp 18) rfl L (by first | rfl | (rw [← hwL]; rfl)) (by have := HL.out; have := HD.out; omega) ?_
       intro g v_o w4 lk lk2 oc kk
       have l_g := Nat.le_trans (HGS.out _ Bw1) lk
       replace r_t2 := zrb r_t2 kk
       have Bw9 := zbt HGS Bw1 kk
       clear Bw1 kk lk)
    | (have hgo := Bw9; clear hgo
       refine wpList_load_as rfl 26 (.tmp 2) rfl 256 (pyF f) arrP r_t2 rfl (by omega) (fun i hi => by rw [Nat.zero_add]) ?_
       have Bw10 := Bw9
       clear Bw9 r_t2))
  have HG := Lib.hid l_g
  clear l_g
  go_loopw [6, 7, 8, 21] (fun out hv cv iv wr => ∃ i k c h : Nat, i ≤ 256 ∧ Hid (8 * k + c = d * i ∧ c < 8) ∧ Hid (h = pk (vvN f d) d i / 256 ^ k) ∧ iv = .int .i64 (i : Int) ∧ cv = .int .i64 (c : Int) ∧ hv = .int .u32 (h : Int) ∧ Owns wr g out (litB (pk (vvN f d) d i) k) ∧ g < wr.heap.size ∧ Below w.heap.size w wr) (fun _ _ _ iv _ => 256 - (intOf iv).toNat)
  case atStart => exact ⟨0, 0, 0, 0, Nat.zero_le _, Lib.hid ⟨by omega, by decide⟩, Lib.hid (Nat.zero_div _).symm, rfl, rfl, rfl, oc, lk2, Bw10⟩
  case round =>
    clear oc lk2 Bw10
    obtain ⟨i, k, c, h, hi, HC, HH, rfl, rfl, rfl, oc, hgs, Bw⟩ := hrel
    by_cases hlt : i < 256
    · have hiI : 0 ≤ (i : Int) ∧ (i : Int) < 256 := by omega
      have HI := Lib.hid hlt
      obtain ⟨x, hx⟩ := nat_var (f i)
      have hxl : x < 65536 := by rw [hx]; exact Hf.out i
      have HX := Lib.hid hx.symm
      obtain ⟨v, hv⟩ := nat_var (vvN f d i)
      obtain ⟨hcd, hc8⟩ := HC.out
      obtain ⟨y, hy⟩ := nat_var (x % 3329)
      have hy2 : (x : Int).tmod 3329 = (y : Int) := by rw [Int.tmod_eq_emod_of_nonneg (by omega)]; omega
      have hy3 : IntKind.u16.wrap ((x : Int).tmod 3329) = (y : Int) := by rw [hy2, u16_in _ (by omega)]
      have hy4 : IntKind.u16.wrap (y : Int) = (y : Int) := u16_in _ (by omega)
      have hvy : v = y % 2 ^ d := by rw [hv, vvN, if_pos HDD.out, HDD.out, ← hx, ← hy, Nat.mod_eq_of_lt (by omega)]
      have hyl : y < 65536 := by omega
      have hyw : IntKind.u32.wrap (y : Int) = (y : Int) := u32_in y (by omega)
      have hd12 := HD.out
      have HLOW := Lib.hid fun w => low_any y d v w (by omega) (by omega) hvy
      have hvl : v < 65536 := by rw [hvy]; exact Nat.lt_of_le_of_lt (Nat.mod_le _ _) hyl
      have hvw : IntKind.u32.wrap (v : Int) = (v : Int) := u32_in v (by omega)
      obtain ⟨T, hT⟩ := nat_var (pk (vvN f d) d i)
      obtain ⟨T2, hT2⟩ := nat_var (pk (vvN f d) d (i + 1))
      have hTT : T2 = T + 2 ^ (d * i) * v := by rw [hT2, hT, hv, pk, Nat.mul_comm]
      obtain ⟨e1, e2, e3⟩ := enc_next T v d i k c (by rw [hT]; exact pk_lt _ _ (vvN_lt f d) i) hcd
      rw [← hTT] at e2 e3
      have hh0 := HH.out
      rw [← hT] at hh0
      rw [← hh0] at e1 e2
      obtain ⟨s, hs⟩ := nat_var (2 ^ c * v)
      obtain ⟨h2, hh2⟩ := nat_var (h + s)
      have hp8 : 2 ^ c ≤ 2 ^ 7 := Nat.pow_le_pow_right (by decide) (by omega)
      have hsl : s ≤ 2 ^ 7 * 65535 := by rw [hs]; exact Nat.mul_le_mul hp8 (by omega)
      have rS := run_shlU v s c (by omega) hs (by omega)
      have hor := or_u32 h c v e1 hvl (by omega)
      rw [← hs, ← hh2] at hor
      have HH2 : Hid (h2 = T2 / 256 ^ k) := Lib.hid (by rw [hh2, hs, e2])
      have hol : litB (pk (vvN f d) d i) k = litB T2 k := by rw [← hT, e3]
      rw [hol] at oc
      obtain ⟨c2, hc2⟩ := nat_var (c + d)
      have hwc2 : IntKind.i64.wrap ((c : Int) + (d : Int)) = (c2 : Int) := by rw [IntWalk.i64_in _ (by omega)]; omega
      have HC2 : Hid (8 * k + c2 = d * (i + 1) ∧ c2 ≤ 20) := Lib.hid ⟨by rw [Nat.mul_succ]; omega, by omega⟩
      have HT2 := Lib.hid hT2
      have HTB : Hid (T2 < 2 ^ (d * (i + 1))) := Lib.hid (by rw [hT2]; exact pk_lt _ _ (vvN_lt f d) (i + 1))
      have hh2w : IntKind.u32.wrap (h2 : Int) = (h2 : Int) := u32_in h2 (by omega)
      clear hx hy hv hvy hyl hd12 hvl hT hT2 hTT e1 e2 e3 hh0 hs hh2 hp8 hsl hol hc2 hcd hc8 HC HH hi hlt hxl
      replace rS := Lib.hid rS
      go_wp2_with (first
        | (have hgo := HX; clear hgo
           refine wpList_index_py rfl (.tmp 20) (.tmp 21) rfl HI.out rfl rfl HX.out ?_
           clear HX)
        | (refine wpList_binR (o := ⟨some 25, _, _, _, _, _⟩) rfl .eql 3 3 _ _ rfl (fun _ => rfl) rE.out rfl rfl ?_)
        | (have hgo := HLOW; clear hgo
           go_at_call 45
           refine (HLOW.out _).mono ?_
           rintro e w5 ⟨rfl, rfl⟩
           clear HLOW)
        | (have hgo := rS; clear hgo
           refine wpList_binR (o := ⟨some 35, _, _, _, _, _⟩) rfl .shl 60 3 _ _ rfl (fun _ => rfl) rS.out rfl rfl ?_
           clear rS))
      go_loopw [6, 7, 8] (fun out hv cv wr => ∃ k c h : Nat, Hid (8 * k + c = d * (i + 1) ∧ c ≤ 20) ∧ Hid (h = T2 / 256 ^ k) ∧ cv = .int .i64 (c : Int) ∧ hv = .int .u32 (h : Int) ∧ Owns wr g out (litB T2 k) ∧ g < wr.heap.size ∧ Below w.heap.size w wr) (fun _ _ cv _ => (intOf cv).toNat)
      case atStart => exact ⟨k, c2, h2, HC2, HH2, rfl, rfl, oc, hgs, Bw⟩
      case round =>
        clear oc hgs Bw
        obtain ⟨k, c, h, HC, HH, rfl, rfl, oc, hgs, Bw⟩ := hrel
        by_cases h8 : 8 ≤ c
        · have h8I : (8 : Int) ≤ (c : Int) := by omega
          obtain ⟨hcd, hc20⟩ := HC.out
          have hhl : h < 1048576 := by
            have hl := HTB.out
            rw [show d * (i + 1) = 8 * k + c from hcd.symm, Nat.pow_add, ← p256] at hl
            have := Nat.div_lt_of_lt_mul hl
            rw [← HH.out] at this
            exact Nat.lt_of_lt_of_le this (Nat.pow_le_pow_right (by decide) hc20)
          obtain ⟨b, hb⟩ := nat_var (h % 256)
          have hbw : IntKind.u8.wrap (h : Int) = (b : Int) := by rw [IntKind.wrap_u8]; omega
          have HB1 : Hid ((b : Int) = ((UInt8.ofNat h).toNat : Int)) := Lib.hid (by rw [hb, UInt8.toNat_ofNat'])
          obtain ⟨h3, hh3⟩ := nat_var (h / 256)
          have hh4 : (h : Int) / 256 = (h3 : Int) := by omega
          have hh5 : IntKind.u32.wrap ((h : Int) / 256) = (h3 : Int) := by rw [hh4, u32_in _ (by omega)]
          have hh6 : IntKind.u32.wrap (h3 : Int) = (h3 : Int) := u32_in _ (by omega)
          obtain ⟨c3, hc3⟩ := nat_var (c - 8)
          have hwc3 : IntKind.i64.wrap ((c : Int) - 8) = (c3 : Int) := by rw [IntWalk.i64_in _ (by omega)]; omega
          have HC3 : Hid (8 * (k + 1) + c3 = d * (i + 1) ∧ c3 ≤ 20) := Lib.hid ⟨by omega, by omega⟩
          have HH3 : Hid (h3 = T2 / 256 ^ (k + 1)) := Lib.hid (by rw [hh3, HH.out, Nat.div_div_eq_div_mul, Nat.pow_succ])
          have HN : Hid (litB T2 k ++ [UInt8.ofNat h] = litB T2 (k + 1)) := Lib.hid (by rw [litB_next, HH.out])
          have HMS : Hid (c3 < c) := Lib.hid (by omega)
          have HKL : Hid (k ≤ 1000) := Lib.hid (by have h1 := HI.out; have h2 := HD.out; have := Nat.mul_le_mul h2.1 (show i + 1 ≤ 256 from h1); omega)
          clear hcd hc20 hhl hb hh3 hc3 h8
          go_wp2_with (first
            | (have hgo := HB1; clear hgo
               refine wpList_app rfl (.tmp 44) (.tmp 47) rfl g _ _ (litB T2 k) [UInt8.ofNat h] (Owns.alloc oc _) (bs_oneI _ _ _ HB1.out) rfl rfl (by rw [litB_length]; have := HKL.out; simp; omega) (by simp; omega) ?_
               intro v6 w6 oc6 g6
               rw [HN.out] at oc6
               have hgs6 : g < w6.heap.size := Nat.lt_of_lt_of_le (Nat.lt_trans hgs (by simp)) g6.size
               have Bw6 := (Bw.alloc (HGS.out _ Bw) _).grown g6 (HGS.out _ (Bw.alloc (HGS.out _ Bw) _)) (fun k hk => Nat.le_trans HG.out (Owns.block oc k hk))
               clear HB1 oc Bw g6 hgs))
          go_roundw
          case rel => exact ⟨k + 1, c3, h3, HC3, HH3, rfl, rfl, oc6, hgs6, Bw6⟩
          case measure => (have := HMS.out; simp [intOf]; try omega)
        · have h8I : ¬ (8 : Int) ≤ (c : Int) := by omega
          have HC4 : Hid (8 * k + c = d * (i + 1) ∧ c < 8) := Lib.hid ⟨HC.out.1, by omega⟩
          have HI2 : Hid (i + 1 ≤ 256) := Lib.hid HI.out
          rw [HT2.out] at oc
          have HH4 := Lib.hid (HT2.out ▸ HH.out)
          go_wp2
          go_roundw
          case rel => exact ⟨i + 1, k, c, h, HI2.out, HC4, HH4, by go_num, rfl, rfl, oc, hgs, Bw⟩
          case measure => (have := HI2.out; simp [intOf]; try omega)
    · obtain rfl : i = 256 := by omega
      obtain ⟨hcd, hc8⟩ := HC.out
      have hkL : k = 32 * d := by omega
      rw [hkL] at oc
      have oc2 : Owns wr g _ (encL f d) := oc
      clear oc HC HH hcd hc8 hkL
      go_wp2
      go_ret2
      exact ⟨_, rfl, Owns.lower oc2 HG.out, Bw⟩
set_option maxHeartbeats 4000000 in
set_option maxRecDepth 20000 in
theorem rEncode_small (f : Nat → Nat) (d : Int) (w : World) (hd : d < 1) : Calls Try.prog 28 #[.agg (arrOf 256 (pyF f)), .int .i64 d] w fun e w' => e = .returned (.tuple #[.slice none 0 0, .int .i64 1]) ∧ Below w.heap.size w w' := by
  have Bw0 := Below.refl w.heap.size w
  have HGS : Hid (∀ wq : World, Below w.heap.size w wq → w.heap.size ≤ wq.heap.size) := Lib.hid fun wq h => h.size
  go_enter Try.func28, Try.ntmps28
  go_wp2_with (first
    | (have hgo := Bw0; clear hgo
       refine wpList_box_row rfl 26 (.tmp 0) rfl 256 (pyF f) rfl ?_
       intro b_t2 w1 lk r_t2 kk
       have l_t2 := zrl HGS Bw0 lk
       have Bw1 := zbt HGS Bw0 kk
       clear Bw0 kk lk))
  go_ret2
  exact ⟨rfl, Bw1⟩
set_option maxHeartbeats 4000000 in
set_option maxRecDepth 20000 in
theorem rEncode_great (f : Nat → Nat) (d : Int) (w : World) (hd : 12 < d) : Calls Try.prog 28 #[.agg (arrOf 256 (pyF f)), .int .i64 d] w fun e w' => e = .returned (.tuple #[.slice none 0 0, .int .i64 1]) ∧ Below w.heap.size w w' := by
  have Bw0 := Below.refl w.heap.size w
  have HGS : Hid (∀ wq : World, Below w.heap.size w wq → w.heap.size ≤ wq.heap.size) := Lib.hid fun wq h => h.size
  have hd3 : ¬ d < 1 := by omega
  go_enter Try.func28, Try.ntmps28
  go_wp2_with (first
    | (have hgo := Bw0; clear hgo
       refine wpList_box_row rfl 26 (.tmp 0) rfl 256 (pyF f) rfl ?_
       intro b_t2 w1 lk r_t2 kk
       have l_t2 := zrl HGS Bw0 lk
       have Bw1 := zbt HGS Bw0 kk
       clear Bw0 kk lk))
  go_ret2
  exact ⟨rfl, Bw1⟩
end Go.Proofs.Ytnpifjimmeehdaa

/- What the document fixes of chapter 10. -/
namespace Go.Proofs.Ytnpifjimmeehdaa
open Go.RowKit Go.Deep
set_option linter.unusedSimpArgs false
set_option linter.unusedVariables false

def uF (k : Nat) : Nat := if k = 0 then 1 else 0
theorem uF_lt (k : Nat) : uF k < 65536 := by unfold uF; split <;> decide
theorem uF_set (k : Nat) (hk : k < 256) : uF k = if k = 0 then 1 else (fun _ => 0) k := rfl
theorem uF_enc : encL uF 1 = 1 :: List.replicate 31 0 := by decide +kernel
theorem uF_ntt0 : nttN uF 0 = 1 := by decide +kernel
theorem uF_ntt1 : nttN uF 1 = 0 := by decide +kernel
theorem encU (w : World) : Calls Try.prog 28 #[.agg (arrOf 256 (pyF uF)), .int .i64 1] w fun e w' => ∃ v, e = .returned (.tuple #[v, .int .i64 0]) ∧ Owns w' w.heap.size v (1 :: List.replicate 31 0) ∧ Below w.heap.size w w' := by
  have h := rEncodeD uF 1 w uF_lt (by decide)
  rw [uF_enc] at h
  exact h
theorem wpList_index_pyg {ops : Array Oper} {rest : List Oper} {o : Oper} {a : Act} {w : World} {Q : Exit → Act → World → Prop} (hw : Region.wanted o (yielded ops a.tmps) = true) (x y : Operand) (ho : o.op = .index 26 x y) {f : Nat → Nat} (j z : Nat) (hj : j < 256)
    (hx : a.eval x = .agg (arrOf 256 (pyF f))) (hy : a.eval y = .int .i64 (j : Int)) (hz : f j = z) (h : wpList Try.prog ops Q rest (a.put o.dst (.int .u16 (z : Int))) w) : wpList Try.prog ops Q (o :: rest) a w := by
  subst hz
  refine wpList_value_given hw (.int .u16 ((f j : Nat) : Int)) ?_ h
  have hc : (arrOf 256 (pyF f))[j]? = some (pyF f j) := arrOf_get 256 _ j hj
  obtain ⟨i, hi, hs⟩ := Option.map_eq_some_iff.1 (show (Try.prog.info? 24).map (fun i => i.size) = some 1 by kernel_rfl)
  have hu : Try.prog.underlying 26 = some (.array 256 24) := u16_und
  obtain ⟨d, hd, hagg⟩ := Option.map_eq_some_iff.1 (show (Try.prog.underlying 24).map (fun d => match d with | .struct _ | .array _ _ => true | _ => false) = some false by kernel_rfl)
  have hg : (isAgg 24).run Try.prog w = .ok false w := by
    unfold isAgg
    rw [Sem.run_bind, run_underlying hd w]
    cases d <;> simp_all
  unfold execOp
  simp [ho, hx, hy, Instr.index, asIntOf, run_underlying hu w, sizeOf, typeInfo, hi, hs, part, hg, hc, hj, Result.andThen]
  rfl
set_option maxHeartbeats 4000000 in
set_option maxRecDepth 20000 in
theorem awake10_any (w : World) : Calls Try.prog 9 #[] w fun e w' => e = .returned (.bool true) ∧ Below w.heap.size w w' := by
  have Bw0 := Below.refl w.heap.size w
  have HGS : Hid (∀ wq : World, Below w.heap.size w wq → w.heap.size ≤ wq.heap.size) := Lib.hid fun wq h => h.size
  go_enter Try.func9, Try.ntmps9
  go_wp2_with (first
    | (have hgo := Bw0; clear hgo
       refine wpList_alloc_row rfl 26 rfl 256 (pyF fun _ => 0) zeroP ?_
       intro b_t1 w1 lk r_t1 kk
       have l_t1 := zrl HGS Bw0 lk
       have Bw1 := zbt HGS Bw0 kk
       clear Bw0 kk lk)
    | (have hgo := Bw1; clear hgo
       refine wpList_store_py rfl (.tmp 6) (.const (.int .u16 1)) rfl uF r_t1 (by decide) rfl rfl uF_set ?_
       intro w90 q90 g90
       replace r_t1 := q90
       have Bw50 := Bw1.grown g90 (HGS.out _ Bw1) (by intro k hk; cases hk; exact l_t1)
       clear Bw1 g90 q90)
    | (have hgo := Bw50; clear hgo
       refine wpList_load_as rfl 26 (.tmp 1) rfl 256 (pyF uF) arrP r_t1 rfl (by omega) (fun i hi => by rw [Nat.zero_add]) ?_
       have Bw51 := Bw50
       clear Bw50)
    | (have hgo := Bw51; clear hgo
       go_at_call 28
       refine (encU _).mono ?_
       rintro e w3 ⟨v_s9, rfl, o_s9, kk⟩
       replace r_t1 := zrb r_t1 kk
       have Bw52 := zbt HGS Bw51 kk
       clear Bw51 kk
       have f_s9 := o_s9.bs
       clear o_s9)
    | (have hgo := Bw52; clear hgo
       refine wpList_load_as rfl 26 (.tmp 1) rfl 256 (pyF uF) arrP r_t1 rfl (by omega) (fun i hi => by rw [Nat.zero_add]) ?_
       have Bw53 := Bw52
       clear Bw52)
    | (have hgo := Bw53; clear hgo
       go_at_call 28
       refine (rEncode_great uF 13 _ (by decide)).mono ?_
       rintro e w10 ⟨rfl, kk⟩
       replace r_t1 := zrb r_t1 kk
       replace f_s9 := zfb f_s9 kk
       have Bw54 := zbt HGS Bw53 kk
       clear Bw53 kk
       obtain ⟨gb, ob, cb, rfl, hb1, hb2, hb3, hb4⟩ := f_s9.open_n (n := 32) (by decide) (by decide)
       have c0 : w10.cell? ⟨gb, ob, none⟩ = some (.int .u8 1) := hb4 0 (by decide)
       have c1 : w10.cell? ⟨gb, ob + 1, none⟩ = some (.int .u8 0) := hb4 1 (by decide)
       clear hb1 hb2 hb3 hb4)
    | (have hgo := Bw54; clear hgo
       refine wpList_load_asg rfl 26 (.tmp 1) rfl 256 (pyF uF) arrP r_t1 rfl (by omega) (fun i hi => by rw [Nat.zero_add]) ?_
       have Bw55 := Bw54
       clear Bw54)
    | (have hgo := Bw55; clear hgo
       go_at_call 18
       refine (rNTT_any uF _ uF_lt).mono ?_
       rintro e w41 ⟨rfl, kk⟩
       replace r_t1 := zrb r_t1 kk
       have Bw56 := zbt HGS Bw55 kk
       clear Bw55 kk)
    | (have hgo := Bw56; clear hgo
       refine wpList_index_pyg rfl (.tmp 42) (.const (.int .i64 1)) rfl 1 0 (by decide) rfl rfl uF_ntt1 ?_
       have Bw57 := Bw56
       clear Bw56)
    | (have hgo := Bw57; clear hgo
       refine wpList_load_asg rfl 26 (.tmp 1) rfl 256 (pyF uF) arrP r_t1 rfl (by omega) (fun i hi => by rw [Nat.zero_add]) ?_
       have Bw58 := Bw57
       clear Bw57)
    | (have hgo := Bw58; clear hgo
       go_at_call 18
       refine (rNTT_any uF _ uF_lt).mono ?_
       rintro e w47 ⟨rfl, kk⟩
       replace r_t1 := zrb r_t1 kk
       have Bw59 := zbt HGS Bw58 kk
       clear Bw58 kk)
    | (have hgo := Bw59; clear hgo
       refine wpList_index_pyg rfl (.tmp 48) (.const (.int .i64 0)) rfl 0 1 (by decide) rfl rfl uF_ntt0 ?_
       have Bw60 := Bw59
       clear Bw59))
  go_ret
  exact ⟨rfl, Bw60⟩
end Go.Proofs.Ytnpifjimmeehdaa

/- From the reading of an argument to the words of the contracts: a slice of bytes, a slice of slices of bytes. -/
set_option linter.unusedSimpArgs false
set_option linter.unusedVariables false
namespace Go.Proofs.Ytnpifjimmeehdaa
open Go.ChangeShapes Go.WideShapes Go.ChangeAt Go.RowKit Go.Deep

/-- The numbers of a row of bytes, as bytes. -/
def asB (zs : List Int) : List UInt8 := zs.map fun n => UInt8.ofNat n.toNat

theorem asB_at (n : Int) (h : 0 ≤ n ∧ n ≤ 255) : ((UInt8.ofNat n.toNat).toNat : Int) = n := by
  rw [UInt8.toNat_ofNat_of_lt' (by show n.toNat < 256; omega)]; omega

/-- A row of numbers whose cells are known, read as bytes. -/
theorem bs_of_cells {W : World} {a : Option Addr} {len cap : Nat} {zs : List Int} (hl : len ≤ cap) (hm : cap ≤ maxLen) (hz : zs.length = cap) (hn : a = none → cap = 0)
    (hwz : ∀ n ∈ zs, (Lit.int .u8 n).wf = true) (hcell : ∀ x, a = some x → ∀ i, i < cap → W.cell? (x.add i) = some (.int .u8 (zs.getD i 0))) : Bs W (.slice a len cap) (asB (zs.take len)) := by
  have hlen : (asB (zs.take len)).length = len := by simp [asB]; omega
  refine ⟨a, cap, by rw [hlen], by omega, hm, hn, fun y hy i hi => ?_⟩
  rw [hlen] at hi
  have hc := hcell y hy i (by omega)
  refine ⟨by rw [← add_block y i]; exact World.block_lt_of_cell? W _ hc, ?_⟩
  rw [hc]
  have hi2 : i < zs.length := by omega
  have hg : zs.getD i 0 = zs[i] := by simp [hi2]
  have hw := bd_u8 (hwz zs[i] (List.getElem_mem _))
  rw [← hg] at hw
  have e : (asB (zs.take len))[i]'(by rw [hlen]; exact hi) = UInt8.ofNat (zs.getD i 0).toNat := by
    simp [asB, List.getElem?_eq_getElem (show i < zs.length by omega)]
  rw [e, asB_at _ hw]

theorem bs_of_trod {H : Type} {enc : TypeId × Value → H} {W : World} {a : Option Addr} {len cap : Nat} {d : DataW H} {ps : List MemPlace}
    (h : DataW.Trod enc Try.prog W 0 (fun _ => true) true 36 (.slice a len cap) d ps) : ∃ l, Bs W (.slice a len cap) l := by
  obtain ⟨fuel, hf⟩ := h
  rcases open_ints Try.underlying36 Try.underlying5 (by kernel_rfl) hf with ⟨hcs, _⟩ | ⟨x, l, c, zs, hcs, _, hl, hm, hz, _, hcell, hwz⟩
  · simp [Value.cells] at hcs
    obtain ⟨rfl, rfl, rfl⟩ := hcs
    exact ⟨[], Bs.nil W⟩
  · simp [Value.cells] at hcs
    obtain ⟨rfl, rfl, rfl⟩ := hcs
    have hz' : zs.length = cap := by simpa using hz
    exact ⟨_, bs_of_cells hl hm hz' (fun h => by cases h) hwz (fun y hy i hi => by cases hy; exact hcell i (by omega))⟩

end Go.Proofs.Ytnpifjimmeehdaa

/- A slice of numbers of whatever kind that came in; as a row's argument. -/
set_option linter.unusedSimpArgs false
set_option linter.unusedVariables false
namespace Go.Proofs.Ytnpifjimmeehdaa
open Go.ChangeShapes Go.WideShapes Go.ChangeAt Go.RowKit Go.Deep

/-- The slice value v reads as the numbers xs, of kind k. -/
def NumsK (k : IntKind) (w : World) (v : Value) (xs : List Int) : Prop :=
  ∃ (a : Option Addr) (cap : Nat), v = .slice a xs.length cap ∧ xs.length ≤ cap ∧ cap ≤ maxLen ∧ (a = none → cap = 0) ∧ (∀ n ∈ xs, (Lit.int k n).wf = true) ∧
    ∀ x, a = some x → ∀ i (h : i < xs.length), x.block < w.heap.size ∧ w.cell? (x.add i) = some (.int k xs[i])
theorem NumsK.below {k : IntKind} {w w' : World} {v : Value} {xs : List Int} {B : Nat} (h : NumsK k w v xs) (hb : Below B w w') (hB : w.heap.size ≤ B) : NumsK k w' v xs := by
  obtain ⟨a, cap, rfl, h1, h2, h3, hw, h4⟩ := h
  refine ⟨a, cap, rfl, h1, h2, h3, hw, fun x hx i hi => ?_⟩
  obtain ⟨g1, g2⟩ := h4 x hx i hi
  exact ⟨Nat.lt_of_lt_of_le g1 hb.size, (hb.cell (p := x.add i) (by rw [add_block]; omega)).trans g2⟩
theorem NumsK.open_cons {k : IntKind} {w : World} {v : Value} {xs : List Int} (h : NumsK k w v xs) (hne : 0 < xs.length) :
    ∃ b off cap, v = .slice (some ⟨b, off, none⟩) xs.length cap ∧ xs.length ≤ cap ∧ cap ≤ maxLen ∧ b < w.heap.size ∧ ∀ i (h : i < xs.length), w.cell? ⟨b, off + i, none⟩ = some (.int k xs[i]) := by
  obtain ⟨a, cap, rfl, h1, h2, h3, hw, h4⟩ := h
  cases a with
  | none => have := h3 rfl; omega
  | some x =>
    obtain ⟨b, off, spot⟩ := x
    obtain ⟨g1, g2⟩ := h4 _ rfl 0 hne
    have hs : spot = none := by simpa [Addr.add] using World.cell?_spot g2
    subst hs
    exact ⟨b, off, cap, rfl, h1, h2, g1, fun i hi => by rw [← add_eq]; exact (h4 _ rfl i hi).2⟩
theorem NumsK.open_n {k : IntKind} {w : World} {v : Value} {xs : List Int} {n : Nat} (h : NumsK k w v xs) (hl : xs.length = n) (hne : 0 < n) :
    ∃ b off cap, v = .slice (some ⟨b, off, none⟩) n cap ∧ n ≤ cap ∧ cap ≤ maxLen ∧ b < w.heap.size ∧ ∀ i (h : i < xs.length), w.cell? ⟨b, off + i, none⟩ = some (.int k xs[i]) := by
  subst hl; exact h.open_cons hne
theorem NumsK.shape {k : IntKind} {w : World} {v : Value} {xs : List Int} (h : NumsK k w v xs) : ∃ a n cap, v = .slice a n cap ∧ xs.length = n ∧ n ≤ cap ∧ cap ≤ 9223372036854775807 ∧ NumsK k w (.slice a n cap) xs := by
  have h0 := h
  obtain ⟨a, cap, rfl, h1, h2, _⟩ := h
  unfold maxLen at h2
  exact ⟨a, _, cap, rfl, rfl, h1, by omega, h0⟩

theorem u16s_of_trod {H : Type} {enc : TypeId × Value → H} {W : World} {a : Option Addr} {len cap : Nat} {d : DataW H} {ps : List MemPlace}
    (h : DataW.Trod enc Try.prog W 0 (fun _ => true) true 22 (.slice a len cap) d ps) : ∃ xs, NumsK .u16 W (.slice a len cap) xs := by
  obtain ⟨fuel, hf⟩ := h
  rcases open_ints Try.underlying22 Try.underlying24 (by kernel_rfl) hf with ⟨hcs, _⟩ | ⟨x, l, c, zs, hcs, _, hl, hm, hz, _, hcell, hwz⟩
  · simp [Value.cells] at hcs
    obtain ⟨rfl, rfl, rfl⟩ := hcs
    exact ⟨[], none, 0, rfl, by simp, by simp [maxLen], fun _ => rfl, by simp, fun y hy => by cases hy⟩
  · simp [Value.cells] at hcs
    obtain ⟨rfl, rfl, rfl⟩ := hcs
    have hz' : zs.length = cap := by simpa using hz
    have hlen : (zs.take len).length = len := by simp; omega
    refine ⟨zs.take len, some x, cap, by rw [hlen], by omega, hm, (fun h => by cases h), fun n hn => hwz n (List.mem_of_mem_take hn), fun y hy i hi => ?_⟩
    cases hy
    have hc := hcell i (by omega)
    refine ⟨by rw [← add_block x i]; exact World.block_lt_of_cell? W _ hc, ?_⟩
    rw [hc]
    have hi2 : i < zs.length := by omega
    simp [hi2]

end Go.Proofs.Ytnpifjimmeehdaa

/- What the laws of chapter 10 share: poly, is, f2. -/
namespace Go.Proofs.Ytnpifjimmeehdaa
open Go.RowKit Go.Deep
set_option linter.unusedSimpArgs false
set_option linter.unusedVariables false

/-- The numbers round and round. -/
def polN (l : List Int) (i : Nat) : Nat :=
  if l.length = 0 then 0 else if i < l.length then (l.getD i 0).toNat else ((l.getD (i % l.length) 0).toNat + i * i) % 4000
theorem u16_wf {x : Int} (h : (Lit.int .u16 x).wf = true) : 0 ≤ x ∧ x < 65536 := by
  unfold Lit.wf at h
  simp only [Bool.and_eq_true, decide_eq_true_eq] at h
  have h1 : (0 : Int) ≤ x := h.1
  have h2 : x ≤ 65535 := h.2
  omega
theorem polN_lt {l : List Int} (h : ∀ x ∈ l, (Lit.int .u16 x).wf = true) (i : Nat) : polN l i < 65536 := by
  unfold polN
  split
  · decide
  · split
    · rename_i h1 h2
      rw [List.getD_eq_getElem?_getD, List.getElem?_eq_getElem h2]
      have h3 := u16_wf (h _ (List.getElem_mem h2))
      show l[i].toNat < 65536
      omega
    · exact Nat.lt_trans (Nat.mod_lt _ (by decide)) (by decide)
theorem getD_I (l : List Int) (i : Nat) (h : i < l.length) : l.getD i 0 = l[i] := by
  rw [List.getD_eq_getElem?_getD, List.getElem?_eq_getElem h]
  rfl
theorem ret_cells2 {P : Program} {a : Act} {w : World} {fn : Func} {R : Ending → World → Prop} {p q : Tmp} {ty ty' : TypeId} {k b b' m m' : Nat} {t t' : TypeId} {f f' : Nat → Value} (F F' : Nat → Value) (h : fn.results = #[.cell p ty, .cell q ty']) (ht : IsArr P ty k) (ht' : IsArr P ty' k)
    (hr : w.rowIs b t m f) (hr' : w.rowIs b' t' m' f') (hp : a.tmps.getD p undef = .pointer (some ⟨b, 0, none⟩)) (hq : a.tmps.getD q undef = .pointer (some ⟨b', 0, none⟩)) (hk : 0 + k ≤ m) (hk' : 0 + k ≤ m') (hF : ∀ i, i < k → f (0 + i) = F i) (hF' : ∀ i, i < k → f' (0 + i) = F' i) (hd : a.defers = [])
    (hR : R (.returned (.tuple #[.agg (arrOf k F), .agg (arrOf k F')])) w) : bodyPost P fn R .ret a w := by
  rw [← arrOf_congr hF, ← arrOf_congr hF'] at hR
  refine bodyPost_ret (v := .tuple #[.agg (arrOf k fun i => f (0 + i)), .agg (arrOf k fun i => f' (0 + i))]) ?_ hd hR
  have hp' : a.tmps[p]?.getD undef = .pointer (some ⟨b, 0, none⟩) := by simpa using hp
  have hq' : a.tmps[q]?.getD undef = .pointer (some ⟨b', 0, none⟩) := by simpa using hq
  simp [results, h, hp', hq', asAddr, run_load_arr hr hk ht, run_load_arr hr' hk' ht']
theorem NumsK.wf {k : IntKind} {w : World} {v : Value} {xs : List Int} (h : NumsK k w v xs) : ∀ n ∈ xs, (Lit.int k n).wf = true := by
  obtain ⟨a, cap, rfl, h1, h2, h3, hw, h4⟩ := h
  exact hw
theorem NumsK.cellAt {k : IntKind} {w : World} {b off n c : Nat} {xs : List Int} (h : NumsK k w (.slice (some ⟨b, off, none⟩) n c) xs) (i : Nat) (hi : i < xs.length) : w.cell? ⟨b, off + i, none⟩ = some (.int k xs[i]) := by
  obtain ⟨a, cap, he, h1, h2, h3, hw, h4⟩ := h
  injection he with he1 he2 he3
  have h10 := (h4 _ he1.symm i hi).2
  rwa [add_eq] at h10
set_option maxHeartbeats 4000000 in
set_option maxRecDepth 20000 in
theorem poly_any (va : Value) (l : List Int) (w : World) (ha : NumsK .u16 w va l) (hl : l.length ≤ 256) : Calls Try.prog 10 #[va] w fun e w' => e = .returned (.tuple #[.agg (arrOf 256 (pyF (polN l))), .agg (arrOf 256 (pyF (polN l)))]) ∧ Below w.heap.size w w' := by
  have Bw0 := Below.refl w.heap.size w
  have HGS : Hid (∀ wq : World, Below w.heap.size w wq → w.heap.size ≤ wq.heap.size) := Lib.hid fun wq h => h.size
  have HW := Lib.hid fun i => polN_lt (NumsK.wf ha) i
  obtain ⟨ad, n, cap, rfl, hln, hnc, hcap, ha⟩ := ha.shape
  have HLN := Lib.hid hln
  have HA := Lib.hid ha
  have hn256 : n ≤ 256 := by omega
  clear ha hl hln
  go_enter Try.func10, Try.ntmps10
  go_wp2_with (first
    | (have hgo := Bw0; clear hgo
       refine wpList_alloc_row rfl 26 rfl 256 (pyF fun _ => 0) zeroP ?_
       intro b_t2 w1 lk r_t2 kk
       have l_t2 := zrl HGS Bw0 lk
       have Bw1 := zbt HGS Bw0 kk
       clear Bw0 kk lk)
    | (have hgo := Bw1; clear hgo
       refine wpList_alloc_row rfl 27 rfl 256 (pyF fun _ => 0) zeroPy ?_
       intro b_t3 w2 lk r_t3 kk
       have n_t2_t3 := zrn r_t2 lk
       have l_t3 := zrl HGS Bw1 lk
       replace r_t2 := zrb r_t2 kk
       have Bw2 := zbt HGS Bw1 kk
       clear Bw1 kk lk)
    | (have hgo := Bw2; clear hgo
       refine wpList_alloc_row rfl 26 rfl 256 (pyF fun _ => 0) zeroP ?_
       intro b_t4 w3 lk r_t4 kk
       have n_t2_t4 := zrn r_t2 lk
       have n_t3_t4 := zrn r_t3 lk
       have l_t4 := zrl HGS Bw2 lk
       replace r_t2 := zrb r_t2 kk
       replace r_t3 := zrb r_t3 kk
       have Bw3 := zbt HGS Bw2 kk
       clear Bw2 kk lk)
    | (have hgo := Bw3; clear hgo
       refine wpList_alloc_row rfl 27 rfl 256 (pyF fun _ => 0) zeroPy ?_
       intro b_t5 w4 lk r_t5 kk
       have n_t2_t5 := zrn r_t2 lk
       have n_t3_t5 := zrn r_t3 lk
       have n_t4_t5 := zrn r_t4 lk
       have l_t5 := zrl HGS Bw3 lk
       replace r_t2 := zrb r_t2 kk
       replace r_t3 := zrb r_t3 kk
       replace r_t4 := zrb r_t4 kk
       have Bw4 := zbt HGS Bw3 kk
       clear Bw3 kk lk))
  go_loopw [6] (fun ii wr => ∃ i : Nat, i ≤ 256 ∧ Hid (n = 0 → i = 0) ∧ ii = .int .i64 (i : Int) ∧ wr.rowIs b_t2 26 256 (pyF fun _ => 0) ∧ wr.rowIs b_t3 27 256 (pyF fun _ => 0) ∧ wr.rowIs b_t4 26 256 (pyF fun k => if k < i then polN l k else 0) ∧ wr.rowIs b_t5 27 256 (pyF fun k => if k < i then polN l k else 0) ∧ Below w.heap.size w wr) (fun ii _ => 256 - (intOf ii).toNat)
  case atStart => exact ⟨0, by omega, Lib.hid fun _ => rfl, rfl, r_t2, r_t3, pyF_congr r_t4 (fun k _ => (if_neg (Nat.not_lt_zero k)).symm), pyF_congr r_t5 (fun k _ => (if_neg (Nat.not_lt_zero k)).symm), Bw4⟩
  case round =>
    clear r_t2 r_t3 r_t4 r_t5 Bw4
    obtain ⟨i, hi, HZ0, rfl, r_t2, r_t3, r_t4, r_t5, Bw⟩ := hrel
    by_cases hn0 : 0 < n
    · obtain ⟨gb, ob, cb, he, hc1, hc2, hbl, hcells⟩ := HA.out.open_n HLN.out hn0
      injection he with he1 he2 he3
      subst he1
      have hn0I : (0 : Int) < (n : Int) := by omega
      have HCE := Lib.hid fun (W : World) (hW : Below w.heap.size w W) j (hj : j < l.length) => (NumsK.cellAt (HA.out.below hW (Nat.le_refl _)) j hj)
      clear hcells hbl hc1 hc2 he2 he3
      by_cases hlt : i < 256
      · have hiI : 0 ≤ (i : Int) ∧ (i : Int) < 256 := by omega
        have HI := Lib.hid hlt
        have HNZ : Hid (n = 0 → i + 1 = 0) := Lib.hid (by omega)
        clear HZ0
        obtain ⟨z, hz⟩ := nat_var (polN l i)
        have hzl : z < 65536 := by rw [hz]; exact HW.out i
        have hzw := u16_in z hzl
        obtain ⟨m, hm⟩ := nat_var (i % n)
        have hmn : m < n := by rw [hm]; exact Nat.mod_lt _ hn0
        have hmI : 0 ≤ (m : Int) ∧ (m : Int) < (n : Int) := by omega
        have hmm : (i : Int).tmod (n : Int) = (m : Int) := by rw [Int.tmod_eq_emod_of_nonneg (by omega), hm, Int.natCast_emod]
        have hmw : IntKind.i64.wrap ((i : Int).tmod (n : Int)) = (m : Int) := by rw [hmm, IntWalk.i64_in _ (by omega)]
        have hmw2 : IntKind.i64.wrap (m : Int) = (m : Int) := IntWalk.i64_in _ (by omega)
        have hnn : ¬ (n : Int) = 0 := by omega
        have hnn1 : ¬ (n : Int) = -1 := by omega
        have hcell := HCE.out _ Bw m (by rw [HLN.out]; exact hmn)
        have hmem := (NumsK.wf HA.out) _ (List.getElem_mem (show m < l.length by rw [HLN.out]; exact hmn))
        obtain ⟨x, hx⟩ : ∃ x : Nat, l[m]'(by rw [HLN.out]; exact hmn) = (x : Int) := ⟨_, (Int.toNat_of_nonneg (u16_wf hmem).1).symm⟩
        have hxl : x < 65536 := by have := (u16_wf hmem).2; rw [hx] at this; omega
        have hgx : (l.getD m 0).toNat = x := by rw [getD_I l m (by rw [HLN.out]; exact hmn), hx]; rfl
        rw [hx] at hcell
        by_cases hin : i < n
        · have hinI : ¬ (n : Int) ≤ (i : Int) := by omega
          have hzx : z = x := by
            rw [hz, polN, if_neg (by rw [HLN.out]; omega), if_pos (by rw [HLN.out]; exact hin), ← hgx, hm, Nat.mod_eq_of_lt hin]
          subst hzx
          have HS : Hid (∀ k, k < 256 → (fun k => if k < i + 1 then polN l k else 0) k = if k = i then z else (fun k => if k < i then polN l k else 0) k) := Lib.hid fun k hk => by
            show (if k < i + 1 then _ else _) = if k = i then z else if k < i then _ else _
            by_cases e : k = i
            · rw [if_pos (by omega), if_pos e, e, hz]
            · rw [if_neg e]
              by_cases h2 : k < i
              · rw [if_pos h2, if_pos (by omega)]
              · rw [if_neg h2, if_neg (by omega)]
          clear hz hzl hm hmn hmem hx hgx hxl hn0 hin hlt
          go_wp2_with (first
            | (have hgo := HS; clear hgo
               refine wpList_store_py rfl (.tmp 38) (.tmp 37) rfl (fun k => if k < i + 1 then polN l k else 0) r_t4 HI.out rfl rfl HS.out ?_
               intro w7 q7 g7
               replace r_t2 := gb_rowIs r_t2 g7 n_t2_t4
               replace r_t3 := gb_rowIs r_t3 g7 n_t3_t4
               replace r_t5 := gb_rowIs r_t5 g7 (Ne.symm n_t4_t5)
               have Bw3 := Bw.grown g7 (HGS.out _ Bw) (by intro k hk; cases hk; exact l_t4)
               clear Bw g7 r_t4)
            | (have hgo := HS; clear hgo
               refine wpList_store_py rfl (.tmp 41) (.tmp 40) rfl (fun k => if k < i + 1 then polN l k else 0) r_t5 HI.out rfl rfl HS.out ?_
               intro w8 q8 g8
               replace r_t2 := gb_rowIs r_t2 g8 n_t2_t5
               replace r_t3 := gb_rowIs r_t3 g8 n_t3_t5
               replace q7 := gb_rowIs q7 g8 n_t4_t5
               have Bw4 := Bw3.grown g8 (HGS.out _ Bw3) (by intro k hk; cases hk; exact l_t5)
               clear Bw3 g8 r_t5 HS))
          go_roundw
          case rel => exact ⟨i + 1, HI.out, HNZ, by go_num, r_t2, r_t3, q7, q8, Bw4⟩
          case measure => (have := HI.out; simp [intOf]; try omega)
        · have hinI : (n : Int) ≤ (i : Int) := by omega
          obtain ⟨s, hs⟩ := nat_var (i * i)
          have hsl : s ≤ 255 * 255 := by rw [hs]; exact Nat.mul_le_mul (by omega) (by omega)
          obtain ⟨t, ht⟩ := nat_var (x + s)
          have hzt : z = t % 4000 := by
            rw [hz, polN, if_neg (by rw [HLN.out]; omega), if_neg (by rw [HLN.out]; exact hin), HLN.out, ← hm, hgx, ht, hs]
          have hxw : IntKind.i64.wrap (x : Int) = (x : Int) := IntWalk.i64_in _ (by omega)
          have rM : ∀ w : World, (binOp .mul 3 (.int .i64 (i : Int)) (.int .i64 (i : Int))).run Try.prog w = .ok (.int .i64 (s : Int)) w := fun w => by
            have h : IntKind.i64.wrap ((i : Int) * (i : Int)) = (s : Int) := by rw [← Int.natCast_mul, ← hs, IntWalk.i64_in _ (by omega)]
            clear hs
            go_simp
          have htw : IntKind.i64.wrap ((x : Int) + (s : Int)) = (t : Int) := by rw [IntWalk.i64_in _ (by omega)]; omega
          have hq : (t : Int).tmod 4000 = (z : Int) := by rw [Int.tmod_eq_emod_of_nonneg (by omega)]; omega
          have hqw : IntKind.i64.wrap ((t : Int).tmod 4000) = (z : Int) := by rw [hq, IntWalk.i64_in _ (by omega)]
          have hzw2 : IntKind.i64.wrap (z : Int) = (z : Int) := IntWalk.i64_in _ (by omega)
          replace rM := Lib.hid rM
          have HS : Hid (∀ k, k < 256 → (fun k => if k < i + 1 then polN l k else 0) k = if k = i then z else (fun k => if k < i then polN l k else 0) k) := Lib.hid fun k hk => by
            show (if k < i + 1 then _ else _) = if k = i then z else if k < i then _ else _
            by_cases e : k = i
            · rw [if_pos (by omega), if_pos e, e, hz]
            · rw [if_neg e]
              by_cases h2 : k < i
              · rw [if_pos h2, if_pos (by omega)]
              · rw [if_neg h2, if_neg (by omega)]
          clear hz hzl hm hmn hmem hx hgx hxl hn0 hin hlt hzt hs ht hsl
          go_wp2_with (first
            | (have hgo := rM; clear hgo
               refine wpList_binR (o := ⟨some 32, _, _, _, _, _⟩) rfl .mul 3 3 _ _ rfl (fun _ => rfl) rM.out rfl rfl ?_
               clear rM)
            | (have hgo := HS; clear hgo
               refine wpList_store_py rfl (.tmp 38) (.tmp 37) rfl (fun k => if k < i + 1 then polN l k else 0) r_t4 HI.out rfl rfl HS.out ?_
               intro w7 q7 g7
               replace r_t2 := gb_rowIs r_t2 g7 n_t2_t4
               replace r_t3 := gb_rowIs r_t3 g7 n_t3_t4
               replace r_t5 := gb_rowIs r_t5 g7 (Ne.symm n_t4_t5)
               have Bw3 := Bw.grown g7 (HGS.out _ Bw) (by intro k hk; cases hk; exact l_t4)
               clear Bw g7 r_t4)
            | (have hgo := HS; clear hgo
               refine wpList_store_py rfl (.tmp 41) (.tmp 40) rfl (fun k => if k < i + 1 then polN l k else 0) r_t5 HI.out rfl rfl HS.out ?_
               intro w8 q8 g8
               replace r_t2 := gb_rowIs r_t2 g8 n_t2_t5
               replace r_t3 := gb_rowIs r_t3 g8 n_t3_t5
               replace q7 := gb_rowIs q7 g8 n_t4_t5
               have Bw4 := Bw3.grown g8 (HGS.out _ Bw3) (by intro k hk; cases hk; exact l_t5)
               clear Bw3 g8 r_t5 HS))
          go_roundw
          case rel => exact ⟨i + 1, HI.out, HNZ, by go_num, r_t2, r_t3, q7, q8, Bw4⟩
          case measure => (have := HI.out; simp [intOf]; try omega)
      · obtain rfl : i = 256 := by omega
        clear hlt
        replace r_t4 : wr.rowIs b_t4 26 256 (pyF (polN l)) := pyF_congr r_t4 fun k hk => if_pos hk
        replace r_t5 : wr.rowIs b_t5 27 256 (pyF (polN l)) := pyF_congr r_t5 fun k hk => if_pos hk
        have Bw0 := Bw
        clear Bw
        go_wp2
        have Bw1 := Bw0.drew
        replace r_t2 := World.rowIs.drew r_t2
        replace r_t3 := World.rowIs.drew r_t3
        replace r_t4 := World.rowIs.drew r_t4
        replace r_t5 := World.rowIs.drew r_t5
        clear Bw0
        refine zpo [b_t2, b_t3] (.rd 0 (.rd 1 .done)) #[true, true, false, false] [2, 3] [none, none] [[], [0]] [(0, []), (1, []), (2, [0, 0]), (3, [1, 2, 0, 1, 2])] 3 ?_
        refine zld (pyF (polN l)) arrP r_t4 (cont2 (Ne.symm n_t2_t4) (Ne.symm n_t3_t4)) (fun i hi => by rw [Nat.zero_add]) rfl rfl rfl rfl rfl (by omega) ?_
        refine zld (pyF (polN l)) arrPy r_t5 (cont2 (Ne.symm n_t2_t5) (Ne.symm n_t3_t5)) (fun i hi => by rw [Nat.zero_add]) rfl rfl rfl rfl rfl (by omega) ?_
        simp only [Act.put, zA, zB, zC]
        refine lintz_leaf ?_
        refine po_start [.nil, .nil] [⟨b_t2, 26, 256, (pyF fun _ => 0), 0, (pyF (polN l))⟩, ⟨b_t3, 27, 256, (pyF fun _ => 0), 1, (pyF (polN l))⟩] (po_olds2 r_t2 r_t3) (fun HWF m gz wa p az hp hm hmp hcl hdn hE hJ hS hO => ?_) (fun gz wa hE hJ => ?_)
        · rcases (show p = 0 ∨ p = 1 by have h9 : p < 2 := hp; omega) with rfl | rfl
          · have e42 : az.eval (.tmp 42) = .agg (arrOf 256 (pyF (polN l))) := hO 42 rfl
            exact po_storeOld 0 (.tmp 2) (.tmp 42) 26 b_t2 256 _ (by rw [hm]; exact hp) hmp hJ rfl (show 0 < 2 by decide) rfl rfl rfl rfl rfl (World.rowIs.lt r_t2) (by simp) (by kernel_rfl) (po_ne2a (show 1 ≠ 0 by decide) (Ne.symm n_t2_t3)) hE rfl rfl rfl rfl rfl (hO 2 rfl) e42 arrP (fun _ _ => rfl)
          · have e43 : az.eval (.tmp 43) = .agg (arrOf 256 (pyF (polN l))) := hO 43 rfl
            exact po_storeOld 1 (.tmp 3) (.tmp 43) 27 b_t3 256 _ (by rw [hm]; exact hp) hmp hJ rfl (show 1 < 2 by decide) rfl rfl rfl rfl rfl (World.rowIs.lt r_t3) (by simp) (by kernel_rfl) (po_ne2b (show 0 ≠ 1 by decide) n_t2_t3) hE rfl rfl rfl rfl rfl (hO 3 rfl) e43 arrPy (fun _ _ => rfl)
        · rw [putO_true _ _ _ _ _ rfl]
          simp only [putA, Nat.zero_add, Nat.reduceAdd]
          simp only [Act.put, zA, zB, zC]
          refine po_end ?_
          replace r_t2 : wa.rowIs b_t2 26 256 (pyF (polN l)) := hJ.old 0 (show 0 < 2 by decide) (show 0 < 2 by decide)
          replace r_t3 : wa.rowIs b_t3 27 256 (pyF (polN l)) := hJ.old 1 (show 1 < 2 by decide) (show 1 < 2 by decide)
          replace r_t4 := Keep.row hE r_t4 (cont2 (Ne.symm n_t2_t4) (Ne.symm n_t3_t4))
          replace r_t5 := Keep.row hE r_t5 (cont2 (Ne.symm n_t2_t5) (Ne.symm n_t3_t5))
          have Bw2 := hE.below Bw1 (HGS.out _ Bw1) (keep_all2 l_t2 l_t3)
          clear Bw1 hE hJ 
          go_wp2
          exact ret_cells2 _ _ rfl arrP arrPy r_t2 r_t3 rfl rfl (by decide) (by decide) (fun i hi => by rw [Nat.zero_add]) (fun i hi => by rw [Nat.zero_add]) rfl ⟨rfl, Bw2⟩
    · have hn0I : ¬ (0 : Int) < (n : Int) := by omega
      obtain rfl : i = 0 := HZ0.out (by omega)
      replace r_t4 : wr.rowIs b_t4 26 256 (pyF (polN l)) := pyF_congr r_t4 fun k hk => by rw [show polN l k = 0 by unfold polN; rw [if_pos (by rw [HLN.out]; omega)]]; split <;> rfl
      replace r_t5 : wr.rowIs b_t5 27 256 (pyF (polN l)) := pyF_congr r_t5 fun k hk => by rw [show polN l k = 0 by unfold polN; rw [if_pos (by rw [HLN.out]; omega)]]; split <;> rfl
      have Bw0 := Bw
      clear Bw
      go_wp2
      have Bw1 := Bw0.drew
      replace r_t2 := World.rowIs.drew r_t2
      replace r_t3 := World.rowIs.drew r_t3
      replace r_t4 := World.rowIs.drew r_t4
      replace r_t5 := World.rowIs.drew r_t5
      clear Bw0
      refine zpo [b_t2, b_t3] (.rd 0 (.rd 1 .done)) #[true, true, false, false] [2, 3] [none, none] [[], [0]] [(0, []), (1, []), (2, [0, 0]), (3, [1, 2, 0, 1, 2])] 3 ?_
      refine zld (pyF (polN l)) arrP r_t4 (cont2 (Ne.symm n_t2_t4) (Ne.symm n_t3_t4)) (fun i hi => by rw [Nat.zero_add]) rfl rfl rfl rfl rfl (by omega) ?_
      refine zld (pyF (polN l)) arrPy r_t5 (cont2 (Ne.symm n_t2_t5) (Ne.symm n_t3_t5)) (fun i hi => by rw [Nat.zero_add]) rfl rfl rfl rfl rfl (by omega) ?_
      simp only [Act.put, zA, zB, zC]
      refine lintz_leaf ?_
      refine po_start [.nil, .nil] [⟨b_t2, 26, 256, (pyF fun _ => 0), 0, (pyF (polN l))⟩, ⟨b_t3, 27, 256, (pyF fun _ => 0), 1, (pyF (polN l))⟩] (po_olds2 r_t2 r_t3) (fun HWF m gz wa p az hp hm hmp hcl hdn hE hJ hS hO => ?_) (fun gz wa hE hJ => ?_)
      · rcases (show p = 0 ∨ p = 1 by have h9 : p < 2 := hp; omega) with rfl | rfl
        · have e42 : az.eval (.tmp 42) = .agg (arrOf 256 (pyF (polN l))) := hO 42 rfl
          exact po_storeOld 0 (.tmp 2) (.tmp 42) 26 b_t2 256 _ (by rw [hm]; exact hp) hmp hJ rfl (show 0 < 2 by decide) rfl rfl rfl rfl rfl (World.rowIs.lt r_t2) (by simp) (by kernel_rfl) (po_ne2a (show 1 ≠ 0 by decide) (Ne.symm n_t2_t3)) hE rfl rfl rfl rfl rfl (hO 2 rfl) e42 arrP (fun _ _ => rfl)
        · have e43 : az.eval (.tmp 43) = .agg (arrOf 256 (pyF (polN l))) := hO 43 rfl
          exact po_storeOld 1 (.tmp 3) (.tmp 43) 27 b_t3 256 _ (by rw [hm]; exact hp) hmp hJ rfl (show 1 < 2 by decide) rfl rfl rfl rfl rfl (World.rowIs.lt r_t3) (by simp) (by kernel_rfl) (po_ne2b (show 0 ≠ 1 by decide) n_t2_t3) hE rfl rfl rfl rfl rfl (hO 3 rfl) e43 arrPy (fun _ _ => rfl)
      · rw [putO_true _ _ _ _ _ rfl]
        simp only [putA, Nat.zero_add, Nat.reduceAdd]
        simp only [Act.put, zA, zB, zC]
        refine po_end ?_
        replace r_t2 : wa.rowIs b_t2 26 256 (pyF (polN l)) := hJ.old 0 (show 0 < 2 by decide) (show 0 < 2 by decide)
        replace r_t3 : wa.rowIs b_t3 27 256 (pyF (polN l)) := hJ.old 1 (show 1 < 2 by decide) (show 1 < 2 by decide)
        replace r_t4 := Keep.row hE r_t4 (cont2 (Ne.symm n_t2_t4) (Ne.symm n_t3_t4))
        replace r_t5 := Keep.row hE r_t5 (cont2 (Ne.symm n_t2_t5) (Ne.symm n_t3_t5))
        have Bw2 := hE.below Bw1 (HGS.out _ Bw1) (keep_all2 l_t2 l_t3)
        clear Bw1 hE hJ 
        go_wp2
        exact ret_cells2 _ _ rfl arrP arrPy r_t2 r_t3 rfl rfl (by decide) (by decide) (fun i hi => by rw [Nat.zero_add]) (fun i hi => by rw [Nat.zero_add]) rfl ⟨rfl, Bw2⟩
set_option maxHeartbeats 4000000 in
set_option maxRecDepth 20000 in
theorem is_yes (f g : Nat → Nat) (w : World) (he : ∀ i, i < 256 → f i = g i) : Calls Try.prog 13 #[.agg (arrOf 256 (pyF f)), .agg (arrOf 256 (pyF g))] w fun e w' => e = .returned (.bool true) ∧ Below w.heap.size w w' := by
  have Bw0 := Below.refl w.heap.size w
  have HGS : Hid (∀ wq : World, Below w.heap.size w wq → w.heap.size ≤ wq.heap.size) := Lib.hid fun wq h => h.size
  have HE := Lib.hid he
  clear he
  go_enter Try.func13, Try.ntmps13
  go_wp2_with (first
    | (have hgo := Bw0; clear hgo
       refine wpList_box_row rfl 26 (.tmp 0) rfl 256 (pyF f) rfl ?_
       intro b_t2 w1 lk r_t2 kk
       have l_t2 := zrl HGS Bw0 lk
       have Bw1 := zbt HGS Bw0 kk
       clear Bw0 kk lk)
    | (have hgo := Bw1; clear hgo
       refine wpList_box_row rfl 27 (.tmp 1) rfl 256 (pyF g) rfl ?_
       intro b_t3 w2 lk r_t3 kk
       have n_t2_t3 := zrn r_t2 lk
       have l_t3 := zrl HGS Bw1 lk
       replace r_t2 := zrb r_t2 kk
       have Bw2 := zbt HGS Bw1 kk
       clear Bw1 kk lk))
  go_loopw [5] (fun ii wr => ∃ i : Nat, i ≤ 256 ∧ ii = .int .i64 (i : Int) ∧ wr.rowIs b_t2 26 256 (pyF f) ∧ wr.rowIs b_t3 27 256 (pyF g) ∧ Below w.heap.size w wr) (fun ii _ => 256 - (intOf ii).toNat)
  case atStart => exact ⟨0, by omega, rfl, r_t2, r_t3, Bw2⟩
  case round =>
    clear r_t2 r_t3 Bw2
    obtain ⟨i, hi, rfl, r_t2, r_t3, Bw⟩ := hrel
    by_cases hlt : i < 256
    · have hiI : 0 ≤ (i : Int) ∧ (i : Int) < 256 := by omega
      obtain ⟨x, hx⟩ := nat_var (f i)
      have c0 := pyF_cell r_t2 i hlt hx.symm
      have c1 := pyF_cell r_t3 i hlt (show g i = x by rw [← HE.out i hlt, hx])
      clear hx
      go_wp2
      go_region
      clear c0 c1
      replace r_t2 := r_t2.drew
      replace r_t3 := r_t3.drew
      replace Bw := Bw.drew
      go_wp2
      go_roundw
      case rel => exact ⟨i + 1, by omega, by go_num, r_t2, r_t3, Bw⟩
      case measure => (simp [intOf]; try omega)
    · obtain rfl : i = 256 := by omega
      go_wp2
      go_ret
      exact ⟨rfl, Bw⟩
set_option maxHeartbeats 4000000 in
set_option maxRecDepth 20000 in
theorem f2_any (f : Nat → Nat) (w : World) : Calls Try.prog 33 #[.agg (arrOf 256 (pyF f))] w fun e w' => e = .returned (.agg (arrOf 256 (pyF f))) ∧ Below w.heap.size w w' := by
  have Bw0 := Below.refl w.heap.size w
  have HGS : Hid (∀ wq : World, Below w.heap.size w wq → w.heap.size ≤ wq.heap.size) := Lib.hid fun wq h => h.size
  go_enter Try.func33, Try.ntmps33
  go_wp2_with (first
    | (have hgo := Bw0; clear hgo
       refine wpList_box_row rfl 26 (.tmp 0) rfl 256 (pyF f) rfl ?_
       intro b_t1 w1 lk r_t1 kk
       have l_t1 := zrl HGS Bw0 lk
       have Bw1 := zbt HGS Bw0 kk
       clear Bw0 kk lk)
    | (have hgo := Bw1; clear hgo
       refine wpList_alloc_row rfl 27 rfl 256 (pyF fun _ => 0) zeroPy ?_
       intro b_t2 w2 lk r_t2 kk
       have n_t1_t2 := zrn r_t1 lk
       have l_t2 := zrl HGS Bw1 lk
       replace r_t1 := zrb r_t1 kk
       have Bw2 := zbt HGS Bw1 kk
       clear Bw1 kk lk)
    | (have hgo := Bw2; clear hgo
       refine wpList_alloc_row rfl 27 rfl 256 (pyF fun _ => 0) zeroPy ?_
       intro b_t3 w3 lk r_t3 kk
       have n_t1_t3 := zrn r_t1 lk
       have n_t2_t3 := zrn r_t2 lk
       have l_t3 := zrl HGS Bw2 lk
       replace r_t1 := zrb r_t1 kk
       replace r_t2 := zrb r_t2 kk
       have Bw3 := zbt HGS Bw2 kk
       clear Bw2 kk lk))
  go_loopw [4] (fun ii wr => ∃ i : Nat, i ≤ 256 ∧ ii = .int .i64 (i : Int) ∧ wr.rowIs b_t1 26 256 (pyF f) ∧ wr.rowIs b_t2 27 256 (pyF fun _ => 0) ∧ wr.rowIs b_t3 27 256 (pyF fun k => if k < i then f k else 0) ∧ Below w.heap.size w wr) (fun ii _ => 256 - (intOf ii).toNat)
  case atStart => exact ⟨0, by omega, rfl, r_t1, r_t2, pyF_congr r_t3 (fun k _ => (if_neg (Nat.not_lt_zero k)).symm), Bw3⟩
  case round =>
    clear r_t1 r_t2 r_t3 Bw3
    obtain ⟨i, hi, rfl, r_t1, r_t2, r_t3, Bw⟩ := hrel
    by_cases hlt : i < 256
    · have hiI : 0 ≤ (i : Int) ∧ (i : Int) < 256 := by omega
      have HI := Lib.hid hlt
      obtain ⟨x, hx⟩ := nat_var (f i)
      have HX := Lib.hid hx.symm
      have HS : Hid (∀ k, k < 256 → (fun k => if k < i + 1 then f k else 0) k = if k = i then x else (fun k => if k < i then f k else 0) k) := Lib.hid fun k hk => by
        show (if k < i + 1 then _ else _) = if k = i then x else if k < i then _ else _
        by_cases e : k = i
        · rw [if_pos (by omega), if_pos e, e, hx]
        · rw [if_neg e]
          by_cases h2 : k < i
          · rw [if_pos h2, if_pos (by omega)]
          · rw [if_neg h2, if_neg (by omega)]
      clear hx
      go_wp2_with (first
        | refine wpList_load_py rfl (.tmp 11) rfl r_t1 HI.out rfl HX.out ?_
        | (have hgo := HS; clear hgo
           refine wpList_store_py rfl (.tmp 13) (.tmp 12) rfl (fun k => if k < i + 1 then f k else 0) r_t3 HI.out rfl rfl HS.out ?_
           intro w7 q7 g7
           replace r_t1 := gb_rowIs r_t1 g7 n_t1_t3
           replace r_t2 := gb_rowIs r_t2 g7 n_t2_t3
           have Bw3 := Bw.grown g7 (HGS.out _ Bw) (by intro k hk; cases hk; exact l_t3)
           clear Bw g7 r_t3 HS))
      go_roundw
      case rel => exact ⟨i + 1, by omega, by go_num, r_t1, r_t2, q7, Bw3⟩
      case measure => (simp [intOf]; try omega)
    · obtain rfl : i = 256 := by omega
      replace r_t3 : wr.rowIs b_t3 27 256 (pyF f) := pyF_congr r_t3 fun k hk => if_pos hk
      have Bw0 := Bw
      clear Bw
      go_wp2_with (first
        | (have hgo := Bw0; clear hgo
           refine wpList_load_as rfl 27 (.tmp 3) rfl 256 (pyF f) arrPy r_t3 rfl (by omega) (fun i hi => by rw [Nat.zero_add]) ?_
           have Bw1 := Bw0
           clear Bw0)
        | (have hgo := Bw1; clear hgo
           refine wpList_store_as rfl 27 (.tmp 2) (.tmp 14) rfl 256 (pyF f) arrPy r_t2 rfl rfl (by omega) (fun _ _ => rfl) (fun i hi => putN_whole hi) ?_
           intro w502 q gk
           replace r_t1 := gb_rowIs r_t1 gk n_t1_t2
           replace r_t3 := gb_rowIs r_t3 gk (Ne.symm n_t2_t3)
           replace r_t2 := q
           have Bw2 := zbg HGS Bw1 gk l_t2
           clear Bw1 gk q))
      exact ret_cell_as _ rfl arrPy r_t2 rfl (by omega) (fun _ _ => rfl) rfl ⟨rfl, Bw2⟩
end Go.Proofs.Ytnpifjimmeehdaa

/- The program's polynomials: read from bytes. -/
namespace Go.Proofs.Ytnpifjimmeehdaa
open Go.RowKit Go.Deep
set_option linter.unusedSimpArgs false
set_option linter.unusedVariables false

theorem dec_more (X n a c B : Nat) (h : 8 * n = a + c) (hB : X / 256 ^ n % 256 = B) : X % 256 ^ n / 2 ^ a < 2 ^ c ∧ X % 256 ^ (n + 1) / 2 ^ a = X % 256 ^ n / 2 ^ a + 2 ^ c * B := by
  have e : 256 ^ n = 2 ^ a * 2 ^ c := by rw [p256, h, Nat.pow_add]
  constructor
  · exact Nat.div_lt_of_lt_mul (by rw [← e]; exact Nat.mod_lt _ (p256_pos n))
  · rw [Nat.pow_succ, Nat.mod_mul, hB]
    conv => lhs; rw [e]
    rw [Nat.mul_assoc, Nat.add_mul_div_left _ _ (Nat.pow_pos (by decide)), ← e]
theorem dec_low (X n a b d : Nat) (h : 8 * n = a + b) (hd : d ≤ b) : X % 256 ^ n / 2 ^ a % 2 ^ d = X / 2 ^ a % 2 ^ d := by
  rw [p256, h, Nat.pow_add, Nat.mod_mul_right_div_self, Nat.mod_mod_of_dvd _ (Nat.pow_dvd_pow 2 hd)]
theorem run_shrU (a c k : Nat) (hk : k ≤ 32) (h : c = a / 2 ^ k) (ha : a < 4294967296) (w : World) : (binOp .shr 60 (.int .u32 (a : Int)) (.int .i64 (k : Int))).run Try.prog w = .ok (.int .u32 (c : Int)) w := by
  have e : (2 : Int) ^ k = ((2 ^ k : Nat) : Int) := by rw [Int.natCast_pow]; rfl
  have hc : c ≤ a := by rw [h]; exact Nat.div_le_self _ _
  have h4 : (a : Int) / 2 ^ k = (c : Int) := by rw [e, ← Int.natCast_ediv, ← h]
  have h1 : IntKind.u32.wrap ((a : Int) / 2 ^ k) = (c : Int) := by rw [h4, u32_in _ (by omega)]
  have h5 : IntKind.u32.wrap (c : Int) = (c : Int) := u32_in _ (by omega)
  have h0 : 0 ≤ (k : Int) := by omega
  have h2 : ¬ (k : Int) < 0 := by omega
  clear h e hc ha
  go_simp
  all_goals (try rw [Nat.min_eq_left hk])
  all_goals (try exact h4)
theorem may_small (X d : Nat) (hd : d < 12) : mayN (decV X d) = true := mayN_yes fun i _ => Nat.lt_trans (Nat.lt_of_lt_of_le (decV_lt X d i) (Nat.pow_le_pow_right (by decide) (show d ≤ 11 by omega))) (by decide)
set_option maxHeartbeats 4000000 in
set_option maxRecDepth 20000 in
theorem rDecode_ok (d : Nat) (v1 : Value) (l1 : List UInt8) (w : World) (h1 : Bs w v1 l1) (hl : l1.length = 32 * d) (hd1 : 1 ≤ d) (hd2 : d ≤ 12) : Calls Try.prog 30 #[.int .i64 (d : Int), v1] w fun e w' => e = .returned (.tuple #[.agg (arrOf 256 (pyF (if mayN (decV (numL l1 (32 * d)) d) then decV (numL l1 (32 * d)) d else fun _ => 0))), .int .i64 (if mayN (decV (numL l1 (32 * d)) d) then 0 else 2)]) ∧ Below w.heap.size w w' := by
  have Bw0 := Below.refl w.heap.size w
  have HGS : Hid (∀ wq : World, Below w.heap.size w wq → w.heap.size ≤ wq.heap.size) := Lib.hid fun wq h => h.size
  obtain ⟨L, hL⟩ := nat_var (32 * d)
  rw [← hL] at hl
  obtain ⟨gb, ob, cb, rfl, hc1, hc2, hbl, hcells⟩ := h1.open_n (n := L) hl (by omega)
  have HB := Lib.hid fun W (hW : Below w.heap.size w W) i (hi : i < l1.length) => bs_cell (h1.below hW (Nat.le_refl _)) i hi
  have HLL := Lib.hid hl
  obtain ⟨X, hX⟩ := nat_var (numL l1 (32 * d))
  rw [← hX]
  rw [← hL] at hX
  have HDG : Hid (∀ n, n < L → X / 256 ^ n % 256 = (l1.getD n 0).toNat) := Lib.hid fun n hn => by rw [hX]; exact numL_dig l1 L n hn
  have HXL : Hid (X < 256 ^ L) := Lib.hid (by rw [hX]; exact numL_lt l1 L)
  have hd3 : ¬ (d : Int) < 1 := by omega
  have hd4 : ¬ 12 < (d : Int) := by omega
  have hd5 : 0 ≤ (d : Int) := by omega
  have hwL : IntKind.i64.wrap (32 * (d : Int)) = (L : Int) := by rw [IntWalk.i64_in _ (by omega)]; omega
  have HL := Lib.hid hL
  have HD : Hid (d ≤ 12 ∧ 1 ≤ d) := Lib.hid ⟨hd2, hd1⟩
  clear hX hL hl h1 hc1 hc2 hbl hcells hd1 hd2
  go_enter Try.func30, Try.ntmps30
  go_wp2_with (first
    | (have hgo := Bw0; clear hgo
       refine wpList_alloc_row rfl 26 rfl 256 (pyF fun _ => 0) zeroP ?_
       intro b_t4 w1 lk r_t4 kk
       have l_t4 := zrl HGS Bw0 lk
       have Bw1 := zbt HGS Bw0 kk
       clear Bw0 kk lk)
    | (have hgo := Bw1; clear hgo
       refine wpList_alloc_row rfl 26 rfl 256 (pyF fun _ => 0) zeroP ?_
       intro b_t6 w9 lk r_t6 kk
       have n_t4_t6 := zrn r_t4 lk
       have l_t6 := zrl HGS Bw1 lk
       replace r_t4 := zrb r_t4 kk
       have Bw2 := zbt HGS Bw1 kk
       clear Bw1 kk lk))
  replace r_t6 := pyF_congr (g := fun k => if k < 0 then decV X d k else 0) r_t6 fun k _ => (if_neg (Nat.not_lt_zero k)).symm
  go_loopw [7, 8, 9, 24] (fun hv cv nv iv wr => ∃ i n c h : Nat, i ≤ 256 ∧ Hid (8 * n = d * i + c ∧ c < 8) ∧ Hid (h = X % 256 ^ n / 2 ^ (d * i)) ∧ iv = .int .i64 (i : Int) ∧ nv = .int .i64 (n : Int) ∧ cv = .int .i64 (c : Int) ∧ hv = .int .u32 (h : Int) ∧ wr.rowIs b_t4 26 256 (pyF fun _ => 0) ∧ wr.rowIs b_t6 26 256 (pyF fun k => if k < i then decV X d k else 0) ∧ Below w.heap.size w wr) (fun _ _ _ iv _ => 256 - (intOf iv).toNat)
  case atStart => exact ⟨0, 0, 0, 0, Nat.zero_le _, Lib.hid ⟨by omega, by decide⟩, Lib.hid (by rw [Nat.pow_zero, Nat.mod_one, Nat.zero_div]), rfl, rfl, rfl, rfl, r_t4, r_t6, Bw2⟩
  case round =>
    clear r_t4 r_t6 Bw2
    obtain ⟨i, n, c, h, hi, HC, HH, rfl, rfl, rfl, rfl, r_t4, r_t6, Bw⟩ := hrel
    by_cases hlt : i < 256
    · have hiI : 0 ≤ (i : Int) ∧ (i : Int) < 256 := by omega
      have HI := Lib.hid hlt
      have HDI : Hid (d * i + d ≤ 8 * L) := Lib.hid (by have h1 := HL.out; have := Nat.mul_le_mul_left d (show i + 1 ≤ 256 by omega); rw [Nat.mul_succ] at this; omega)
      have HC2 : Hid (8 * n = d * i + c ∧ c < d + 8) := Lib.hid ⟨HC.out.1, by have := HC.out.2; omega⟩
      go_wp2
      go_loopw [7, 8, 9] (fun hv cv nv wr => ∃ n c h : Nat, Hid (8 * n = d * i + c ∧ c < d + 8) ∧ Hid (h = X % 256 ^ n / 2 ^ (d * i)) ∧ nv = .int .i64 (n : Int) ∧ cv = .int .i64 (c : Int) ∧ hv = .int .u32 (h : Int) ∧ wr.rowIs b_t4 26 256 (pyF fun _ => 0) ∧ wr.rowIs b_t6 26 256 (pyF fun k => if k < i then decV X d k else 0) ∧ Below w.heap.size w wr) (fun _ cv _ _ => 20 - (intOf cv).toNat)
      case atStart => exact ⟨n, c, h, HC2, HH, rfl, rfl, rfl, r_t4, r_t6, Bw⟩
      case round =>
        clear r_t4 r_t6 Bw HC HC2 HH
        obtain ⟨n, c, h, HC, HH, rfl, rfl, rfl, r_t4, r_t6, Bw⟩ := hrel
        by_cases hcd : c < d
        · have hcI : (c : Int) < (d : Int) := by omega
          obtain ⟨h8, hc8⟩ := HC.out
          have hd12 := HD.out
          have hnL : n < L := by have := HDI.out; omega
          have hnI : 0 ≤ (n : Int) ∧ (n : Int) < (L : Int) := by omega
          have hLl : L ≤ 384 := by have := HL.out; omega
          have hcell := HB.out _ Bw n (by rw [HLL.out]; exact hnL)
          rw [← getD_at l1 n (by rw [HLL.out]; exact hnL)] at hcell
          obtain ⟨B, hB⟩ := nat_var (l1.getD n 0).toNat
          have hBl : B < 256 := by rw [hB]; exact UInt8.toNat_lt _
          rw [← hB] at hcell
          obtain ⟨e1, e2⟩ := dec_more X n (d * i) c B h8 (by rw [HDG.out n hnL, hB])
          rw [← HH.out] at e1 e2
          obtain ⟨s, hs⟩ := nat_var (2 ^ c * B)
          obtain ⟨h2, hh2⟩ := nat_var (h + s)
          have hp8 : 2 ^ c ≤ 2 ^ 11 := Nat.pow_le_pow_right (by decide) (by omega)
          have hsl : s ≤ 2 ^ 11 * 255 := by rw [hs]; exact Nat.mul_le_mul hp8 (by omega)
          have rS := run_shlU B s c (by omega) hs (by omega)
          have hor := or_u32 h c B e1 (by omega) (by omega)
          rw [← hs, ← hh2] at hor
          have hbw : IntKind.u32.wrap (B : Int) = (B : Int) := u32_in _ (by omega)
          have hhw : IntKind.u32.wrap (h2 : Int) = (h2 : Int) := u32_in _ (by omega)
          obtain ⟨n2, hn2⟩ := nat_var (n + 1)
          have hwn2 : IntKind.i64.wrap ((n : Int) + 1) = (n2 : Int) := by rw [IntWalk.i64_in _ (by omega)]; omega
          obtain ⟨c2, hc2⟩ := nat_var (c + 8)
          have hwc2 : IntKind.i64.wrap ((c : Int) + 8) = (c2 : Int) := by rw [IntWalk.i64_in _ (by omega)]; omega
          have HC2 : Hid (8 * n2 = d * i + c2 ∧ c2 < d + 8) := Lib.hid ⟨by omega, by omega⟩
          have HH2 : Hid (h2 = X % 256 ^ n2 / 2 ^ (d * i)) := Lib.hid (by rw [hh2, hs, hn2, e2])
          have HMS : Hid (20 - c2 < 20 - c) := Lib.hid (by omega)
          clear h8 hc8 hd12 hnL hB hBl e1 e2 hs hh2 hp8 hsl hn2 hc2 hLl hcd
          replace rS := Lib.hid rS
          go_wp2_with (first
            | (have hgo := rS; clear hgo
               refine wpList_binR (o := ⟨some 39, _, _, _, _, _⟩) rfl .shl 60 3 _ _ rfl (fun _ => rfl) rS.out rfl rfl ?_
               clear rS))
          go_roundw
          case rel => exact ⟨n2, c2, h2, HC2, HH2, rfl, rfl, rfl, r_t4, r_t6, Bw⟩
          case measure => (have := HMS.out; simp [intOf]; try omega)
        · have hcI : ¬ (c : Int) < (d : Int) := by omega
          obtain ⟨h8, hc8⟩ := HC.out
          have hd12 := HD.out
          obtain ⟨e1, _⟩ := dec_more X n (d * i) c _ h8 rfl
          rw [← HH.out] at e1
          have hhl : h < 1048576 := Nat.lt_of_lt_of_le e1 (Nat.pow_le_pow_right (by decide) (show c ≤ 20 by omega))
          obtain ⟨v, hv⟩ := nat_var (h % 2 ^ d)
          have hvd : v = decV X d i := by rw [hv, HH.out, dec_low X n (d * i) c d h8 (by omega)]; rfl
          have HLOW := Lib.hid fun w => low_any h d v w (by omega) (by omega) hv
          obtain ⟨h3, hh3⟩ := nat_var (h / 2 ^ d)
          have rS := run_shrU h h3 d (by omega) hh3 (by omega)
          obtain ⟨c3, hc3⟩ := nat_var (c - d)
          have hwc3 : IntKind.i64.wrap ((c : Int) - (d : Int)) = (c3 : Int) := by rw [IntWalk.i64_in _ (by omega)]; omega
          obtain ⟨i2, hi2⟩ := nat_var (i + 1)
          have hwi2 : IntKind.i64.wrap ((i : Int) + 1) = (i2 : Int) := by rw [IntWalk.i64_in _ (by omega)]; omega
          have HC3 : Hid (8 * n = d * i2 + c3 ∧ c3 < 8) := Lib.hid ⟨by rw [hi2, Nat.mul_succ]; omega, by omega⟩
          have HH3 : Hid (h3 = X % 256 ^ n / 2 ^ (d * i2)) := Lib.hid (by rw [hh3, HH.out, Nat.div_div_eq_div_mul, ← Nat.pow_add, hi2, Nat.mul_succ])
          have HI2 : Hid (i2 ≤ 256 ∧ 256 - i2 < 256 - i) := Lib.hid (by have := HI.out; omega)
          have HS : Hid (∀ k, k < 256 → (fun k => if k < i2 then decV X d k else 0) k = if k = i then v else (fun k => if k < i then decV X d k else 0) k) := Lib.hid fun k hk => by
            show (if k < i2 then _ else _) = if k = i then v else if k < i then _ else _
            by_cases e : k = i
            · rw [if_pos (by omega), if_pos e, e, hvd]
            · rw [if_neg e]
              by_cases h2 : k < i
              · rw [if_pos h2, if_pos (by omega)]
              · rw [if_neg h2, if_neg (by omega)]
          clear h8 hc8 hd12 e1 hhl hv hvd hh3 hc3 hi2 hcd
          replace rS := Lib.hid rS
          go_wp2_with (first
            | (have hgo := HLOW; clear hgo
               go_at_call 45
               refine (HLOW.out _).mono ?_
               rintro e w5 ⟨rfl, rfl⟩
               clear HLOW)
            | (have hgo := rS; clear hgo
               refine wpList_binR (o := ⟨some 50, _, _, _, _, _⟩) rfl .shr 60 3 _ _ rfl (fun _ => rfl) rS.out rfl rfl ?_
               clear rS)
            | (have hgo := HS; clear hgo
               refine wpList_store_py rfl (.tmp 47) (.tmp 46) rfl (fun k => if k < i2 then decV X d k else 0) r_t6 HI.out rfl rfl HS.out ?_
               intro w7 q7 g7
               replace r_t4 := gb_rowIs r_t4 g7 n_t4_t6
               have Bw3 := Bw.grown g7 (HGS.out _ Bw) (by intro k hk; cases hk; exact l_t6)
               clear Bw g7 r_t6 HS))
          go_roundw
          case rel => exact ⟨i2, n, c3, h3, HI2.out.1, HC3, HH3, rfl, rfl, rfl, rfl, r_t4, q7, Bw3⟩
          case measure => (have := HI2.out.2; simp [intOf]; try omega)
    · obtain rfl : i = 256 := by omega
      replace r_t6 : wr.rowIs b_t6 26 256 (pyF (decV X d)) := pyF_congr r_t6 fun k hk => if_pos hk
      have HM := Lib.hid fun w => rMay_any (decV X d) w fun i => Nat.lt_of_lt_of_le (decV_lt X d i) (Nat.le_trans (Nat.pow_le_pow_right (by decide) HD.out.1) (by decide))
      have Bw0 := Bw
      clear Bw HC HH
      by_cases hm : mayN (decV X d) = true
      · have hm0 : mayN (decV X d) = true := by simpa using hm
        rw [hm0] at HM
        clear hm0
        have HMM := Lib.hid hm
        clear hm
        go_wp2_with (first
          | (have hgo := Bw0; clear hgo
             refine wpList_load_as rfl 26 (.tmp 6) rfl 256 (pyF (decV X d)) arrP r_t6 rfl (by omega) (fun i hi => by rw [Nat.zero_add]) ?_
             have Bw1 := Bw0
             clear Bw0)
          | (have hgo := Bw1; clear hgo
             go_at_call 11
             refine (HM.out _).mono ?_
             rintro e w502 ⟨rfl, kk⟩
             replace r_t4 := zrb r_t4 kk
             replace r_t6 := zrb r_t6 kk
             have Bw2 := zbt HGS Bw1 kk
             clear Bw1 kk)
          | (have hgo := Bw2; clear hgo
             refine wpList_load_as rfl 26 (.tmp 6) rfl 256 (pyF (decV X d)) arrP r_t6 rfl (by omega) (fun i hi => by rw [Nat.zero_add]) ?_
             have Bw3 := Bw2
             clear Bw2)
          | (have hgo := Bw3; clear hgo
             refine wpList_store_as rfl 26 (.tmp 4) (.tmp 59) rfl 256 (pyF (decV X d)) arrP r_t4 rfl rfl (by omega) (fun _ _ => rfl) (fun i hi => putN_whole hi) ?_
             intro w505 q gk
             replace r_t6 := gb_rowIs r_t6 gk (Ne.symm n_t4_t6)
             replace r_t4 := q
             have Bw4 := zbg HGS Bw3 gk l_t4
             clear Bw3 gk q))
        exact ret_cell_as_tmp _ rfl arrP r_t4 rfl rfl (by omega) (fun _ _ => rfl) rfl ⟨rfl, Bw4⟩
      · have hm0 : mayN (decV X d) = false := by simpa using hm
        rw [hm0] at HM
        clear hm0
        have HMM := Lib.hid hm
        clear hm
        go_wp2_with (first
          | (have hgo := Bw0; clear hgo
             refine wpList_load_as rfl 26 (.tmp 6) rfl 256 (pyF (decV X d)) arrP r_t6 rfl (by omega) (fun i hi => by rw [Nat.zero_add]) ?_
             have Bw1 := Bw0
             clear Bw0)
          | (have hgo := Bw1; clear hgo
             go_at_call 11
             refine (HM.out _).mono ?_
             rintro e w502 ⟨rfl, kk⟩
             replace r_t4 := zrb r_t4 kk
             replace r_t6 := zrb r_t6 kk
             have Bw2 := zbt HGS Bw1 kk
             clear Bw1 kk)
          | (have hgo := Bw2; clear hgo
             refine wpList_build_arr rfl 26 #[] rfl (arrOf 256 (pyF (fun _ => 0))) ?_ ?_
             · simp only [List.map_toArray, List.map_cons, List.map_nil]; exact builtP0
             have Bw3 := Bw2
             clear Bw2)
          | (have hgo := Bw3; clear hgo
             refine wpList_store_as rfl 26 (.tmp 4) (.tmp 58) rfl 256 (pyF (fun _ => 0)) arrP r_t4 rfl rfl (by omega) (fun _ _ => rfl) (fun i hi => putN_whole hi) ?_
             intro w505 q gk
             replace r_t6 := gb_rowIs r_t6 gk (Ne.symm n_t4_t6)
             replace r_t4 := q
             have Bw4 := zbg HGS Bw3 gk l_t4
             clear Bw3 gk q))
        exact ret_cell_as_tmp _ rfl arrP r_t4 rfl rfl (by omega) (fun _ _ => rfl) rfl ⟨rfl, Bw4⟩
set_option maxHeartbeats 4000000 in
set_option maxRecDepth 20000 in
theorem rDecode_small (d : Int) (v1 : Value) (l1 : List UInt8) (w : World) (h1 : Bs w v1 l1) (hd : d < 1) : Calls Try.prog 30 #[.int .i64 d, v1] w fun e w' => e = .returned (.tuple #[.agg (arrOf 256 (pyF fun _ => 0)), .int .i64 1]) ∧ Below w.heap.size w w' := by
  have Bw0 := Below.refl w.heap.size w
  have HGS : Hid (∀ wq : World, Below w.heap.size w wq → w.heap.size ≤ wq.heap.size) := Lib.hid fun wq h => h.size
  go_enter Try.func30, Try.ntmps30
  go_wp2_with (first
    | (have hgo := Bw0; clear hgo
       refine wpList_alloc_row rfl 26 rfl 256 (pyF fun _ => 0) zeroP ?_
       intro b_t4 w1 lk r_t4 kk
       have l_t4 := zrl HGS Bw0 lk
       have Bw1 := zbt HGS Bw0 kk
       clear Bw0 kk lk)
    | (have hgo := Bw1; clear hgo
       refine wpList_build_arr rfl 26 #[] rfl (arrOf 256 (pyF (fun _ => 0))) ?_ ?_
       · simp only [List.map_toArray, List.map_cons, List.map_nil]; exact builtP0
       have Bw2 := Bw1
       clear Bw1)
    | (have hgo := Bw2; clear hgo
       refine wpList_store_as rfl 26 (.tmp 4) (.tmp 17) rfl 256 (pyF (fun _ => 0)) arrP r_t4 rfl rfl (by omega) (fun _ _ => rfl) (fun i hi => putN_whole hi) ?_
       intro w10 q gk
       replace r_t4 := q
       have Bw3 := zbg HGS Bw2 gk l_t4
       clear Bw2 gk q))
  exact ret_cell_as_tmp _ rfl arrP r_t4 rfl rfl (by omega) (fun _ _ => rfl) rfl ⟨rfl, Bw3⟩
set_option maxHeartbeats 4000000 in
set_option maxRecDepth 20000 in
theorem rDecode_great (d : Int) (v1 : Value) (l1 : List UInt8) (w : World) (h1 : Bs w v1 l1) (hd : 12 < d) : Calls Try.prog 30 #[.int .i64 d, v1] w fun e w' => e = .returned (.tuple #[.agg (arrOf 256 (pyF fun _ => 0)), .int .i64 1]) ∧ Below w.heap.size w w' := by
  have Bw0 := Below.refl w.heap.size w
  have HGS : Hid (∀ wq : World, Below w.heap.size w wq → w.heap.size ≤ wq.heap.size) := Lib.hid fun wq h => h.size
  have hd3 : ¬ d < 1 := by omega
  go_enter Try.func30, Try.ntmps30
  go_wp2_with (first
    | (have hgo := Bw0; clear hgo
       refine wpList_alloc_row rfl 26 rfl 256 (pyF fun _ => 0) zeroP ?_
       intro b_t4 w1 lk r_t4 kk
       have l_t4 := zrl HGS Bw0 lk
       have Bw1 := zbt HGS Bw0 kk
       clear Bw0 kk lk)
    | (have hgo := Bw1; clear hgo
       refine wpList_build_arr rfl 26 #[] rfl (arrOf 256 (pyF (fun _ => 0))) ?_ ?_
       · simp only [List.map_toArray, List.map_cons, List.map_nil]; exact builtP0
       have Bw2 := Bw1
       clear Bw1)
    | (have hgo := Bw2; clear hgo
       refine wpList_store_as rfl 26 (.tmp 4) (.tmp 17) rfl 256 (pyF (fun _ => 0)) arrP r_t4 rfl rfl (by omega) (fun _ _ => rfl) (fun i hi => putN_whole hi) ?_
       intro w10 q gk
       replace r_t4 := q
       have Bw3 := zbg HGS Bw2 gk l_t4
       clear Bw2 gk q))
  exact ret_cell_as_tmp _ rfl arrP r_t4 rfl rfl (by omega) (fun _ _ => rfl) rfl ⟨rfl, Bw3⟩
set_option maxHeartbeats 4000000 in
set_option maxRecDepth 20000 in
theorem rDecode_length (d : Int) (v1 : Value) (l1 : List UInt8) (w : World) (h1 : Bs w v1 l1) (hd1 : 1 ≤ d) (hd2 : d ≤ 12) (hl : (l1.length : Int) ≠ 32 * d) : Calls Try.prog 30 #[.int .i64 d, v1] w fun e w' => e = .returned (.tuple #[.agg (arrOf 256 (pyF fun _ => 0)), .int .i64 2]) ∧ Below w.heap.size w w' := by
  have Bw0 := Below.refl w.heap.size w
  have HGS : Hid (∀ wq : World, Below w.heap.size w wq → w.heap.size ≤ wq.heap.size) := Lib.hid fun wq h => h.size
  have hd3 : ¬ d < 1 := by omega
  have hd4 : ¬ 12 < d := by omega
  obtain ⟨ad, cb, rfl, hw1, hw2, hw3⟩ := h1
  obtain ⟨M, hM⟩ : ∃ M, M = 32 * d := ⟨_, rfl⟩
  have hwM : IntKind.i64.wrap (32 * d) = M := by rw [IntWalk.i64_in _ (by omega)]; omega
  rw [← hM] at hl
  have HLN := Lib.hid hl
  have hne : ((l1.length : Int) == M) = false := by simpa using hl
  have hne2 : decide ((l1.length : Int) = M) = false := by simpa using hl
  clear hM
  go_enter Try.func30, Try.ntmps30
  go_wp2_with (first
    | (have hgo := Bw0; clear hgo
       refine wpList_alloc_row rfl 26 rfl 256 (pyF fun _ => 0) zeroP ?_
       intro b_t4 w1 lk r_t4 kk
       have l_t4 := zrl HGS Bw0 lk
       have Bw1 := zbt HGS Bw0 kk
       clear Bw0 kk lk)
    | (have hgo := Bw1; clear hgo
       refine wpList_alloc_row rfl 26 rfl 256 (pyF fun _ => 0) zeroP ?_
       intro b_t6 w9 lk r_t6 kk
       have n_t4_t6 := zrn r_t4 lk
       have l_t6 := zrl HGS Bw1 lk
       replace r_t4 := zrb r_t4 kk
       have Bw2 := zbt HGS Bw1 kk
       clear Bw1 kk lk)
    | (have hgo := Bw2; clear hgo
       refine wpList_build_arr rfl 26 #[] rfl (arrOf 256 (pyF (fun _ => 0))) ?_ ?_
       · simp only [List.map_toArray, List.map_cons, List.map_nil]; exact builtP0
       have Bw3 := Bw2
       clear Bw2)
    | (have hgo := Bw3; clear hgo
       refine wpList_store_as rfl 26 (.tmp 4) (.tmp 23) rfl 256 (pyF (fun _ => 0)) arrP r_t4 rfl rfl (by omega) (fun _ _ => rfl) (fun i hi => putN_whole hi) ?_
       intro w11 q gk
       replace r_t6 := gb_rowIs r_t6 gk (Ne.symm n_t4_t6)
       replace r_t4 := q
       have Bw4 := zbg HGS Bw3 gk l_t4
       clear Bw3 gk q))
  exact ret_cell_as_tmp _ rfl arrP r_t4 rfl rfl (by omega) (fun _ _ => rfl) rfl ⟨rfl, Bw4⟩
end Go.Proofs.Ytnpifjimmeehdaa
