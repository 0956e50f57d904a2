/- Texts joined: what they are for stands ahead of each. -/
import Derived.Test.YtiapkfeamochfaaMM1
import Derived.StillTailTactics
set_option linter.unusedSimpArgs false
set_option linter.unusedVariables false

/- AES of the document: a block. -/
namespace Go.Proofs.Ytiapkfeamochfaa
open Go.RowKit Go.Deep
set_option linter.unusedSimpArgs false
set_option linter.unusedVariables false

/-- A slice's first 16 cells, and what stands behind them. -/
def sF (A : Nat → Nat) (F : Nat → Value) (j : Nat) : Value := if j < 16 then .int .u8 ((A j : Nat) : Int) else F j
theorem sF_cell {w : World} {b n : Nat} {t : TypeId} {A : Nat → Nat} {F : Nat → Value} (h : w.rowIs b t n (sF A F)) (hn : 16 ≤ n) (j : Nat) (hj : j < 16) {x : Nat} (hx : A j = x) : w.cell? ⟨b, j, none⟩ = some (.int .u8 (x : Int)) := by
  have h1 := h.cell (i := j) (by omega)
  unfold sF at h1
  rw [if_pos hj, hx] at h1
  exact h1
theorem sF_set {w : World} {b n : Nat} {t : TypeId} {A G : Nat → Nat} {F : Nat → Value} (h : w.rowIs b t n (sF A F)) (i z : Nat) (hi : i < 16) (hg : ∀ j, j < 16 → G j = if j = i then z else A j) : (w.setCell ⟨b, i, none⟩ (.int .u8 (z : Int))).rowIs b t n (sF G F) :=
  (h.set i _).congr fun j hj => by
    show (if j = i then _ else _) = _
    unfold sF
    by_cases h1 : j < 16
    · rw [if_pos h1, if_pos h1, hg j h1]
      split <;> rfl
    · rw [if_neg h1, if_neg h1, if_neg (by omega)]
theorem own_open {w : World} {base : Nat} {v : Value} {l : List UInt8} (h : Owns w base v l) (hne : 0 < l.length) : ∃ g c, v = .slice (some ⟨g, 0, none⟩) l.length c ∧ base ≤ g := by
  obtain ⟨_, h2⟩ := h
  rcases h2 with ⟨h2, h3⟩ | ⟨g, c, cur, h2, h3, _⟩
  · exact absurd h3 (by intro e; simp_all)
  · exact ⟨g, c, h2, h3⟩
theorem own_row16 {w : World} {base : Nat} {v : Value} {l : List UInt8} (h : Owns w base v l) (hl : l.length = 16) :
    ∃ (g c : Nat) (F : Nat → Value), v = .slice (some ⟨g, 0, none⟩) 16 c ∧ base ≤ g ∧ 16 ≤ c ∧ c ≤ maxLen ∧ w.rowIs g 5 c (sF (fun j => (l.getD j 0).toNat) F) := by
  obtain ⟨g, c, rfl, hg⟩ := own_open h (by omega)
  rw [hl] at h ⊢
  obtain ⟨f, hr⟩ := h.rowOf
  obtain ⟨ad2, n2, c2, he, q1, q2, q3, _⟩ := h.bs.shape
  cases he
  refine ⟨g, c, f, rfl, hg, q2, q3, hr.congr fun j hj => ?_⟩
  unfold sF
  by_cases h1 : j < 16
  · rw [if_pos h1]
    have h4 := h.cellAt hl.symm j (by omega)
    rw [hr.cell hj] at h4
    rw [Option.some.inj h4]
    show Value.int .u8 _ = Value.int .u8 (((l.getD j 0).toNat : Nat) : Int)
    rw [getD_at l j (by omega)]
  · rw [if_neg h1]
theorem wpList_make16 {ops : Array Oper} {rest : List Oper} {o : Oper} {a : Act} {w : World} {Q : Exit → Act → World → Prop} (hgd : o.guard = none) (ho : o.op = .makeSlice 22 (.const (.int .i64 16)) (.const (.int .i64 16)))
    (h : ∀ b F w', w.heap.size ≤ b → w'.rowIs b 5 16 (sF (fun _ => 0) F) → Below w.heap.size w w' → wpList Try.prog ops Q rest (a.put o.dst (.slice (some ⟨b, 0, none⟩) 16 16)) w') : wpList Try.prog ops Q (o :: rest) a w := by
  have hm : (Instr.makeSlice 22 (.int .i64 16) (.int .i64 16)).run Try.prog w = .ok (.slice (some ⟨w.heap.size, 0, none⟩) 16 16) (w.alloc (.cells (madeCells #[.int .u8 0] 16) 5)) := run_make_row' (P := Try.prog) 22 5 (.int .u8 0) 1 Try.underlying22 Try.info5 rfl .i64 .i64 16 (by omega) (by omega) w
  have e : a.eval (.const (.int .i64 16)) = .int .i64 16 := rfl
  have hr : (execOp a.eval (mkOp (.makeSlice 22 (.const (.int .i64 16)) (.const (.int .i64 16))) o.type)).run Try.prog w = .ok (.value (.slice (some ⟨w.heap.size, 0, none⟩) 16 16)) (w.alloc (.cells (madeCells #[.int .u8 0] 16) 5)) := by
    simp [execOp, mkOp, e, hm, Result.andThen]
  obtain ⟨g, c, F, he, hg, hc1, hc2, hrow⟩ := own_row16 (made_own w 16 (by unfold maxLen; omega)) (List.length_replicate)
  cases he
  have hrow2 : (w.alloc (.cells (madeCells #[.int .u8 0] 16) 5)).rowIs w.heap.size 5 16 (sF (fun _ => 0) F) := hrow.congr fun j hj => by
    unfold sF
    rw [if_pos hj, if_pos hj]
    show Value.int .u8 ((((List.replicate 16 (0 : UInt8)).getD j 0).toNat : Nat) : Int) = _
    rw [show (List.replicate 16 (0 : UInt8)).getD j 0 = 0 by rw [List.getD_eq_getElem?_getD, List.getElem?_replicate]; split <;> rfl]
    rfl
  exact wpList_plain hgd fun _ hK => by
    unfold Oper.wp
    rw [exec_mkOp, ho, hr]
    exact hK _ _ (h _ _ _ (Nat.le_refl _) hrow2 ((Below.refl _ _).alloc (Nat.le_refl _) _))
def arkN (A wv : Nat → Nat) (k j : Nat) : Nat := A j ^^^ wv (16 * k + j)
def shN (A : Nat → Nat) (j : Nat) : Nat := boxN (A (4 * ((j / 4 + j % 4) % 4) + j % 4))
def mixN (T : Nat → Nat) (j : Nat) : Nat := gfm (T (4 * (j / 4) + j % 4)) 2 ^^^ gfm (T (4 * (j / 4) + (j % 4 + 1) % 4)) 3 ^^^ T (4 * (j / 4) + (j % 4 + 2) % 4) ^^^ T (4 * (j / 4) + (j % 4 + 3) % 4)
def rdN (A wv : Nat → Nat) (k : Nat) : Nat → Nat := arkN (if k < 14 then mixN (shN A) else shN A) wv k
/-- The state behind k rounds. -/
def stN (b wv : Nat → Nat) : Nat → Nat → Nat
  | 0 => arkN b wv 0
  | k + 1 => rdN (stN b wv k) wv (k + 1)
theorem shN_lt (A : Nat → Nat) (j : Nat) : shN A j < 256 := boxN_lt _
theorem mixN_lt (T : Nat → Nat) (h : ∀ j, T j < 256) (j : Nat) : mixN T j < 256 := xor_lt8 (xor_lt8 (xor_lt8 (gfm_lt _ _ (h _)) (gfm_lt _ _ (h _))) (h _)) (h _)
theorem arkN_lt (A wv : Nat → Nat) (hA : ∀ j, A j < 256) (hw : ∀ j, wv j < 256) (k j : Nat) : arkN A wv k j < 256 := xor_lt8 (hA _) (hw _)
theorem stN_lt (b wv : Nat → Nat) (hb : ∀ j, b j < 256) (hw : ∀ j, wv j < 256) : ∀ k j, stN b wv k j < 256
  | 0, j => arkN_lt _ _ hb hw 0 j
  | k + 1, j => by
    refine arkN_lt _ _ (fun i => ?_) hw (k + 1) j
    split
    · exact mixN_lt _ (fun i => shN_lt _ i) i
    · exact shN_lt _ i
def nB (l : List UInt8) (j : Nat) : Nat := (l.getD j 0).toNat
theorem nB_lt (l : List UInt8) (j : Nat) : nB l j < 256 := UInt8.toNat_lt _
def upN (G A : Nat → Nat) (n j : Nat) : Nat := if j < n then G j else A j
theorem upN_zero (G A : Nat → Nat) : upN G A 0 = A := funext fun j => if_neg (Nat.not_lt_zero j)
theorem upN_at (G A : Nat → Nat) (n : Nat) : upN G A n n = A n := if_neg (Nat.lt_irrefl n)
theorem upN_step (G A : Nat → Nat) (n z : Nat) (h : G n = z) (j : Nat) (_ : j < 16) : upN G A (n + 1) j = if j = n then z else upN G A n j := by
  unfold upN
  by_cases e : j = n
  · rw [if_pos (by omega), if_pos e, e, h]
  · rw [if_neg e]
    by_cases h2 : j < n
    · rw [if_pos h2, if_pos (by omega)]
    · rw [if_neg h2, if_neg (by omega)]
theorem sF_all {w : World} {b n : Nat} {t : TypeId} {G A : Nat → Nat} {F : Nat → Value} (h : w.rowIs b t n (sF (upN G A 16) F)) : w.rowIs b t n (sF G F) := h.congr fun j hj => by
  unfold sF upN
  split <;> rfl
theorem wpList_store_s {P : Program} {ops : Array Oper} {rest : List Oper} {o : Oper} {a : Act} {w : World} {Q : Exit → Act → World → Prop} (hgd : o.guard = none) (ty : TypeId) (x y : Operand) (ho : o.op = .store ty x y) {b i z n : Nat} {t : TypeId} {A : Nat → Nat} {F : Nat → Value} (G : Nat → Nat) (hr : w.rowIs b t n (sF A F)) (hn : 16 ≤ n) (hi : i < 16)
    (hx : a.eval x = .pointer (some ⟨b, i, none⟩)) (hy : a.eval y = .int .u8 (z : Int)) (hs : (P.info? ty).map (fun i => i.size) = some 1) (hg : ∀ j, j < 16 → G j = if j = i then z else A j)
    (h : ∀ w', w'.rowIs b t n (sF G F) → w.grownBy w' (some b) → wpList P ops Q rest (a.put o.dst undef) w') : wpList P ops Q (o :: rest) a w := by
  have hx' := exec_store_cell (P := P) a.eval ty x y o.type hr hx hy hs rfl rfl (by omega)
  exact wpList_plain hgd fun _ hK => by
    unfold Oper.wp
    rw [exec_mkOp, ho, hx']
    exact hK _ _ (h _ (sF_set hr i z hi hg) (grownBy_set _ _ _ _))
def EqA (W : World) : Nat → World → Prop := fun _ w' => w' = W
section
variable {P : Program} {ops : Array Oper} {Q : Exit → Act → World → Prop} {r : List (Nat × Option (List Nat))} {a : Act} {w : World} {o : Oper} {i : Nat}
theorem ea_start {id : Nat} (r : List (Nat × Option (List Nat))) (hm : P.follows .mixedOrders = true) (hs : Region.noSelect ops = true) (hl : r.length ≤ ops.size)
    (hk : linsOk ops r (Array.replicate ops.size false) = true) (hQ : ∀ d v c a w, Q (.panic c) (Act.put a d v) w → Q (.panic c) a w)
    (h : LinS P ops Q r (EqA w.drew) a w.drew) : (Code.region id ops true).wp P Q a w :=
  wp_region_lins r (EqA w.drew) hm hs hl hk hQ (fun _ _ => rfl) h
theorem ea_rd {c : Nat} {C : List Nat} {op : Op} {t : TypeId} (d : Nat) (v : Value) (ho : ops[i]? = some o) (hd : o.dst = some d) (hop : o.op = op) (ht : o.type = t) (hw : Region.wanted o (yielded ops a.tmps) = true)
    (hy : (execOp a.eval (mkOp op t)).run P w = .ok (.value v) w) (h : LinS P ops Q r (EqA w) (a.put (some d) v) w) : LinS P ops Q ((i, some (c :: C)) :: r) (EqA w) a w :=
  lins_read d op t v ho hd hop ht hw (fun w' hw' => by rw [hw' c List.mem_cons_self]; exact hy) h
theorem ea_call {fn : Func} {f : Nat} {xs : Array Operand} {ts : Array TypeId} {args : Array Value} {v : Value} (d : Nat) (hcon : Calls P f args w fun e w' => e = .returned v ∧ w' = w)
    (ho : ops[i]? = some o) (hd : o.dst = some d) (hop : o.op = .call { callee := .value (.func f), args := xs, argTypes := ts })
    (hw : Region.wanted o (yielded ops a.tmps) = true) (hf : P.funcs[f]? = some fn) (hn : (fn.name == "runtime.NumGoroutine") = false) (hb : fn.body.isNone = false) (hargs : xs.map a.eval = args)
    (h : LinS P ops Q r (EqA w) (a.put (some d) v) w) : LinS P ops Q ((i, none) :: r) (EqA w) a w :=
  lins_fn (some d) f xs ts args hcon ho hd hop hw hf hn hb hargs fun e w' hT => by
    obtain ⟨rfl, rfl⟩ := hT
    exact ⟨v, rfl, EqA w', fun c _ => ⟨rfl, fun _ h => h⟩, h⟩
theorem ea_store {R : Nat → World → Prop} {ty : TypeId} {x y : Operand} {t t' : TypeId} {b j z n : Nat} {A : Nat → Nat} {F : Nat → Value} (G : Nat → Nat) (hr : writers r = []) (ho : ops[i]? = some o) (hd : o.dst = none) (hop : o.op = .store ty x y) (ht : o.type = t) (hw : Region.wanted o (yielded ops a.tmps) = true)
    (hrow : w.rowIs b t' n (sF A F)) (hn : 16 ≤ n) (hi : j < 16) (hx : a.eval x = .pointer (some ⟨b, j, none⟩)) (hy : a.eval y = .int .u8 (z : Int)) (hs : (P.info? ty).map (fun i => i.size) = some 1) (hg : ∀ k, k < 16 → G k = if k = j then z else A k)
    (h : ∀ w', w'.rowIs b t' n (sF G F) → w.grownBy w' (some b) → LinS P ops Q r Any a w') : LinS P ops Q ((i, none) :: r) R a w :=
  lins_store _ t _ ho hd hop ht hw (exec_store_cell (P := P) a.eval ty x y t hrow hx hy hs rfl rfl (by omega)) Any (fun c hc => by rw [hr] at hc; cases hc) (h _ (sF_set hrow j z hi hg) (grownBy_set _ _ _ _))
end
def blkL (A : Nat → Nat) : List UInt8 := (List.range 16).map fun j => UInt8.ofNat (A j)
theorem Bs16 {w : World} {g c : Nat} {A : Nat → Nat} {F : Nat → Value} (h : w.rowIs g 5 c (sF A F)) (hc1 : 16 ≤ c) (hc2 : c ≤ maxLen) (hA : ∀ j, A j < 256) : Bs w (.slice (some ⟨g, 0, none⟩) 16 c) (blkL A) := by
  have hl : (blkL A).length = 16 := by simp [blkL]
  have h9 := Bs.of_rowIs h (blkL A) (by rw [hl]; exact hc1) hc2 (fun i hi => by
    rw [hl] at hi
    unfold sF
    rw [if_pos hi]
    simp only [blkL, List.getElem_map, List.getElem_range]
    rw [UInt8.toNat_ofNat_of_lt' (hA i)])
  rwa [hl] at h9
set_option maxHeartbeats 4000000 in
set_option maxRecDepth 20000 in
theorem refBlockW_any (v0 : Value) (l0 : List UInt8) (v2 : Value) (l2 : List UInt8) (w : World) (h0 : Bs w v0 l0) (hl0 : l0.length = 240) (h2 : Bs w v2 l2) (hl2 : l2.length = 16) : Calls Try.prog 25 #[v0, .agg (arrOf 256 (cF .u8 boxN)), v2] w fun e w' => ∃ v, e = .returned v ∧ Bs w' v (blkL (stN (nB l2) (nB l0) 14)) ∧ Below w.heap.size w w' := by
  obtain ⟨ga, oa, ca, rfl, hq1, hq2, hq3, hq4⟩ := h0.open_n (n := 240) hl0 (by decide)
  have HF := Lib.hid h0
  have f_2 := h2
  have HL0 := Lib.hid hl0
  have HL2 := Lib.hid hl2
  have Bw0 := Below.refl w.heap.size w
  have HGS : Hid (∀ wq : World, Below w.heap.size w wq → w.heap.size ≤ wq.heap.size) := Lib.hid fun wq h => h.size
  obtain ⟨RES, hRES⟩ : ∃ R, R = stN (nB l2) (nB l0) 14 := ⟨_, rfl⟩
  rw [← hRES]
  have HRES := Lib.hid hRES
  clear h0 h2 hl0 hl2 hRES hq1 hq2 hq3 hq4
  go_enter Try.func25, Try.ntmps25
  go_wp2_with (first
    | (have hgo := Bw0; clear hgo
       refine wpList_box_row rfl 48 (.tmp 1) rfl 256 (cF .u8 boxN) rfl ?_
       intro b_t4 w1 lk r_t4 kk
       have l_t4 := zrl HGS Bw0 lk
       replace f_2 := zfb f_2 kk
       have Bw1 := zbt HGS Bw0 kk
       obtain ⟨BS, hBS⟩ : ∃ n, n = w1.heap.size := ⟨_, rfl⟩
       have HB4 : Hid (b_t4 < BS) := Lib.hid (by rw [hBS]; exact World.rowIs.lt r_t4)
       have HB0 : Hid (w.heap.size ≤ BS) := Lib.hid (by rw [hBS]; exact HGS.out _ Bw1)
       have hbs : BS ≤ w1.heap.size := by rw [hBS]; exact Nat.le_refl _
       clear Bw0 kk lk hBS)
    | (have hgo := Bw1; clear hgo
       refine wpList_empty rfl rfl ?_
       intro v_e w2 o_e kk
       replace o_e := Owns.lower o_e hbs
       replace r_t4 := zrb r_t4 kk
       replace f_2 := zfb f_2 kk
       replace hbs := Nat.le_trans hbs kk.size
       have Bw2 := zbt HGS Bw1 kk
       clear Bw1 kk)
    | (have hgo := Bw2; clear hgo
       refine wpList_appA rfl (.tmp 17) (.tmp 18) rfl BS _ _ [] l2 o_e f_2 rfl rfl (by rw [HL2.out]; decide) hbs ?_
       intro v_k w3 o_k g3 ho3
       replace r_t4 := World.rowIs.of_block r_t4 (g3.block _ (World.rowIs.lt r_t4) (fun e => absurd (Owns.block o_e _ e.symm) (Nat.not_le_of_lt HB4.out)))
       have Bw3 := Bw2.grown g3 (HGS.out _ Bw2) (fun j hj => Nat.le_trans HB0.out (Owns.block o_e j hj))
       rw [List.nil_append] at o_k
       obtain ⟨gs, cs, Fs, rfl, hgs, hcs1, hcs2, r_s⟩ := own_row16 o_k HL2.out
       have HCS := Lib.hid (And.intro hcs1 hcs2)
       have HGB := Lib.hid (Nat.le_trans HB0.out hgs)
       have HN4 : Hid (b_t4 ≠ gs) := Lib.hid (Nat.ne_of_lt (Nat.lt_of_lt_of_le HB4.out hgs))
       replace r_s : w3.rowIs gs 5 cs (sF (nB l2) Fs) := r_s
       clear Bw2 g3 ho3 o_e f_2 o_k hbs hgs hcs1 hcs2))
  go_loopw [8] (fun iv wr => ∃ k : Nat, k ≤ 16 ∧ iv = .int .i64 (k : Int) ∧ wr.rowIs b_t4 48 256 (cF .u8 boxN) ∧ wr.rowIs gs 5 cs (sF (upN (arkN (nB l2) (nB l0) 0) (nB l2) k) Fs) ∧ Below w.heap.size w wr) (fun iv _ => 16 - (intOf iv).toNat)
  case atStart => exact ⟨0, by decide, rfl, r_t4, by rw [upN_zero]; exact r_s, Bw3⟩
  case round =>
    clear r_t4 r_s Bw3
    obtain ⟨k, hk, rfl, r_t4, r_s, Bw0⟩ := hrel
    by_cases hlt : k < 16
    · have hkI : 0 ≤ (k : Int) ∧ (k : Int) < 16 := by omega
      have hkJ : (k : Int) < 240 := by omega
      have HK := Lib.hid hlt
      obtain ⟨x, hx⟩ := nat_var (nB l2 k)
      obtain ⟨y, hy⟩ := nat_var (nB l0 k)
      obtain ⟨z, hz⟩ := nat_var (x ^^^ y)
      have e1 : bits .xor .u8 (x : Int) (y : Int) = (z : Int) := by rw [hz]; exact bits_xorN x y (by rw [hx]; exact nB_lt _ _) (by rw [hy]; exact nB_lt _ _)
      have HZ : Hid (arkN (nB l2) (nB l0) 0 k = z) := Lib.hid (by unfold arkN; rw [hz, hx, hy, Nat.mul_zero, Nat.zero_add])
      have c1 := sF_cell r_s HCS.out.1 k hlt (x := x) (by rw [upN_at, hx])
      have c2 := bs_cell (HF.out.below Bw0 (Nat.le_refl _)) k (by rw [HL0.out]; omega)
      rw [← getD_at l0 k (by rw [HL0.out]; omega), show (l0.getD k 0).toNat = y from hy.symm] at c2
      have hfr := r_s.frozen k
      clear hx hy hz hk hlt
      go_wp2
      go_region
      go_wp2
      go_roundw
      case rel => exact ⟨k + 1, HK.out, by have := HK.out; go_num, World.rowIs.setOther r_t4.drew HN4.out _, sF_set r_s.drew k z HK.out (upN_step _ _ k z HZ.out), (Bw0.drew).setCell HGB.out _⟩
      case measure => (have := HK.out; simp [intOf]; try omega)
    · obtain rfl : k = 16 := by omega
      replace r_s := sF_all r_s
      replace r_s : wr.rowIs gs 5 cs (sF (stN (nB l2) (nB l0) 0) Fs) := r_s
      clear hk hlt
      rw [show ((16 : Nat) : Int) = 16 from rfl]
      go_wp2
      go_loopw [9] (fun iv wr => ∃ k : Nat, k ≤ 14 ∧ iv = .int .i64 ((k + 1 : Nat) : Int) ∧ wr.rowIs b_t4 48 256 (cF .u8 boxN) ∧ wr.rowIs gs 5 cs (sF (stN (nB l2) (nB l0) k) Fs) ∧ Below w.heap.size w wr) (fun iv _ => 15 - (intOf iv).toNat)
      case atStart => exact ⟨0, by decide, rfl, r_t4, r_s, Bw0⟩
      case round =>
        clear r_t4 r_s Bw0
        obtain ⟨k, hk, rfl, r_t4, r_s, Bw0⟩ := hrel
        obtain ⟨k1, hk1⟩ := nat_var (k + 1)
        rw [← hk1]
        by_cases hlt : k < 14
        · have HK := Lib.hid hlt
          have hkJ : (k1 : Int) ≤ 14 := by omega
          have HK1 := Lib.hid hk1
          obtain ⟨A, hA⟩ : ∃ A, A = stN (nB l2) (nB l0) k := ⟨_, rfl⟩
          have HA := Lib.hid hA
          have HAL : Hid (∀ j, A j < 256) := Lib.hid (by rw [hA]; exact stN_lt _ _ (nB_lt _) (nB_lt _) k)
          rw [← hA] at r_s
          clear hA hk hlt hk1
          go_wp2_with (first
            | (have hgo := Bw0; clear hgo
               refine wpList_make16 rfl rfl ?_
               intro gt Ft w4 lk r_t kk
               have HLT := Lib.hid (zrl HGS Bw0 lk)
               have HN4t : Hid (b_t4 ≠ gt) := Lib.hid (zrn r_t4 lk)
               have HNst : Hid (gs ≠ gt) := Lib.hid (zrn r_s lk)
               replace r_t4 := zrb r_t4 kk
               replace r_s := zrb r_s kk
               have Bw1 := zbt HGS Bw0 kk
               clear Bw0 kk lk))
          go_loopw [11] (fun cv wr => ∃ c : Nat, c ≤ 4 ∧ cv = .int .i64 (c : Int) ∧ wr.rowIs b_t4 48 256 (cF .u8 boxN) ∧ wr.rowIs gs 5 cs (sF A Fs) ∧ wr.rowIs gt 5 16 (sF (upN (shN A) (fun _ => 0) (4 * c)) Ft) ∧ Below w.heap.size w wr) (fun cv _ => 4 - (intOf cv).toNat)
          case atStart => exact ⟨0, by decide, rfl, r_t4, r_s, by rw [Nat.mul_zero, upN_zero]; exact r_t, Bw1⟩
          case round =>
            clear r_t4 r_s r_t Bw1
            obtain ⟨c, hc, rfl, r_t4, r_s, r_t, Bw0⟩ := hrel
            by_cases hlc : c < 4
            · have hcI : (c : Int) < 4 := by omega
              have HC := Lib.hid hlc
              clear hc hlc
              go_wp2
              clear hcI
              go_loopw [12] (fun rv wr => ∃ r : Nat, r ≤ 4 ∧ rv = .int .i64 (r : Int) ∧ wr.rowIs b_t4 48 256 (cF .u8 boxN) ∧ wr.rowIs gs 5 cs (sF A Fs) ∧ wr.rowIs gt 5 16 (sF (upN (shN A) (fun _ => 0) (4 * c + r)) Ft) ∧ Below w.heap.size w wr) (fun rv _ => 4 - (intOf rv).toNat)
              case atStart => exact ⟨0, by decide, rfl, r_t4, r_s, r_t, Bw0⟩
              case round =>
                clear r_t4 r_s r_t Bw0
                obtain ⟨r, hr, rfl, r_t4, r_s, r_t, Bw0⟩ := hrel
                by_cases hlr : r < 4
                · have hc4 := HC.out
                  have hrI : (r : Int) < 4 := by omega
                  obtain ⟨f4, hf4⟩ := nat_var (4 * c)
                  obtain ⟨n, hn⟩ := nat_var (f4 + r)
                  obtain ⟨cr, hcr⟩ := nat_var (c + r)
                  obtain ⟨d, hd⟩ := nat_var (cr % 4)
                  obtain ⟨d4, hd4⟩ := nat_var (4 * d)
                  obtain ⟨q, hq⟩ := nat_var (d4 + r)
                  have hw1 : IntKind.i64.wrap (4 * (c : Int)) = (f4 : Int) := by rw [IntWalk.i64_in _ (by omega)]; omega
                  have hw2 : IntKind.i64.wrap ((f4 : Int) + (r : Int)) = (n : Int) := by rw [IntWalk.i64_in _ (by omega)]; omega
                  have hw3 : IntKind.i64.wrap ((c : Int) + (r : Int)) = (cr : Int) := by rw [IntWalk.i64_in _ (by omega)]; omega
                  have hw4 : (cr : Int).tmod 4 = (d : Int) := by rw [Int.tmod_eq_emod_of_nonneg (by omega)]; omega
                  have hw5 : IntKind.i64.wrap ((cr : Int).tmod 4) = (d : Int) := by rw [hw4, IntWalk.i64_in _ (by omega)]
                  have hw6 : IntKind.i64.wrap (4 * (d : Int)) = (d4 : Int) := by rw [IntWalk.i64_in _ (by omega)]; omega
                  have hw7 : IntKind.i64.wrap ((d4 : Int) + (r : Int)) = (q : Int) := by rw [IntWalk.i64_in _ (by omega)]; omega
                  have hqI : 0 ≤ (q : Int) ∧ (q : Int) < 16 := by omega
                  have hnI : 0 ≤ (n : Int) ∧ (n : Int) < 16 := by omega
                  obtain ⟨a, ha⟩ := nat_var (A q)
                  have hal : a < 256 := by rw [ha]; exact HAL.out q
                  have haI : 0 ≤ (a : Int) ∧ (a : Int) < 256 := by omega
                  obtain ⟨z, hz⟩ := nat_var (boxN a)
                  have HZ : Hid (shN A n = z) := Lib.hid (by
                    unfold shN
                    rw [show n / 4 = c by omega, show n % 4 = r by omega, ← hcr, ← hd, ← hd4, ← hq, ← ha, hz])
                  have c1 := sF_cell r_s HCS.out.1 q (by omega) (x := a) ha.symm
                  have c2 : wr.cell? ⟨b_t4, a, none⟩ = some (.int .u8 (z : Int)) := by rw [hz]; exact r_t4.cell hal
                  have HNL : Hid (n < 16) := Lib.hid (by omega)
                  have HNE : Hid (4 * c + r = n) := Lib.hid (by omega)
                  have HR := Lib.hid hlr
                  rw [HNE.out] at r_t
                  clear hc4 hf4 hn hcr hd hd4 hq ha hal hz hr hlr
                  go_wp2_with (first
                    | (have hgo := HZ; clear hgo
                       refine wpList_store_s rfl 5 (.tmp 66) (.tmp 65) rfl (upN (shN A) (fun _ => 0) (n + 1)) r_t (Nat.le_refl _) HNL.out rfl rfl (by kernel_rfl) (upN_step _ _ n z HZ.out) ?_
                       intro w5 q5 g5
                       replace r_t4 := gb_rowIs r_t4 g5 HN4t.out
                       replace r_s := gb_rowIs r_s g5 HNst.out
                       have Bw1 := zbg HGS Bw0 g5 HLT.out
                       clear Bw0 g5 r_t c1 c2))
                  go_roundw
                  case rel => exact ⟨r + 1, HR.out, by have := HR.out; go_num, r_t4, r_s, by rw [← Nat.add_assoc, HNE.out]; exact q5, Bw1⟩
                  case measure => (have := HR.out; simp [intOf]; try omega)
                · obtain rfl : r = 4 := by omega
                  have hc4 := HC.out
                  obtain ⟨c1, hc1⟩ := nat_var (c + 1)
                  have hwc : IntKind.i64.wrap ((c : Int) + 1) = (c1 : Int) := by rw [IntWalk.i64_in _ (by omega)]; omega
                  have HC1 := Lib.hid hc1
                  clear hr hlr hc4 hc1
                  go_wp2
                  go_roundw
                  case rel => exact ⟨c + 1, HC.out, by rw [HC1.out], r_t4, r_s, r_t, Bw0⟩
                  case measure => (have := HC.out; have := HC1.out; simp [intOf]; try omega)
            · obtain rfl : c = 4 := by omega
              replace r_t := sF_all (A := fun _ => 0) r_t
              clear hc hlc
              rw [show ((4 : Nat) : Int) = 4 from rfl]
              by_cases h14 : k1 < 14
              · have h14I : (k1 : Int) < 14 := by omega
                obtain ⟨G, hG⟩ : ∃ G, G = mixN (shN A) := ⟨_, rfl⟩
                have HGE : Hid (G = if k1 < 14 then mixN (shN A) else shN A) := Lib.hid (by rw [if_pos h14]; exact hG)
                have HGL : Hid (∀ j, G j < 256) := Lib.hid (by rw [hG]; exact mixN_lt _ (shN_lt A))
                have HGM := Lib.hid hG
                clear h14 hG
                go_wp2
                clear h14I
                go_loopw [13] (fun cv wr => ∃ c : Nat, c ≤ 4 ∧ cv = .int .i64 (c : Int) ∧ wr.rowIs b_t4 48 256 (cF .u8 boxN) ∧ wr.rowIs gs 5 cs (sF A Fs) ∧ wr.rowIs gt 5 16 (sF (upN G (shN A) (4 * c)) Ft) ∧ Below w.heap.size w wr) (fun cv _ => 4 - (intOf cv).toNat)
                case atStart => exact ⟨0, by decide, rfl, r_t4, r_s, by rw [Nat.mul_zero, upN_zero]; exact r_t, Bw0⟩
                case round =>
                  clear r_t4 r_s r_t Bw0
                  obtain ⟨c, hc, rfl, r_t4, r_s, r_t, Bw0⟩ := hrel
                  by_cases hlc : c < 4
                  · have hcI : (c : Int) < 4 := by omega
                    have HC := Lib.hid hlc
                    obtain ⟨f4, hf4⟩ := nat_var (4 * c)
                    obtain ⟨f8, hf8⟩ := nat_var (f4 + 4)
                    have hw1 : IntKind.i64.wrap (4 * (c : Int)) = (f4 : Int) := by rw [IntWalk.i64_in _ (by omega)]; omega
                    have hw2 : IntKind.i64.wrap ((f4 : Int) + 4) = (f8 : Int) := by rw [IntWalk.i64_in _ (by omega)]; omega
                    have hub : ∀ j, upN G (shN A) (4 * c) j < 256 := fun j => by
                      unfold upN
                      split
                      · exact HGL.out j
                      · exact shN_lt A j
                    have f_t := Bs16 r_t (Nat.le_refl 16) (by unfold maxLen; omega) hub
                    obtain ⟨X, hX⟩ : ∃ X, X = ((blkL (upN G (shN A) (4 * c))).take f8).drop f4 := ⟨_, rfl⟩
                    have hbl : (blkL (upN G (shN A) (4 * c))).length = 16 := by simp [blkL]
                    have hXl : X.length = 4 := by rw [hX, List.length_drop, List.length_take, hbl]; omega
                    have hXg : ∀ r, r < 4 → (X.getD r 0).toNat = shN A (f4 + r) := fun r hr => by
                      rw [hX, List.getD_eq_getElem?_getD, List.getElem?_drop, List.getElem?_take_of_lt (by omega)]
                      have h9 : (blkL (upN G (shN A) (4 * c)))[f4 + r]? = some (UInt8.ofNat (upN G (shN A) (4 * c) (f4 + r))) := by
                        simp [blkL, show f4 + r < 16 by omega]
                      rw [h9]
                      show (UInt8.ofNat _).toNat = _
                      rw [UInt8.toNat_ofNat_of_lt' (hub _)]
                      exact if_neg (by omega)
                    have HX := Lib.hid hX
                    have HXL := Lib.hid hXl
                    have HXG := Lib.hid hXg
                    have HF4 := Lib.hid hf4
                    have HLM : Hid (f4 ≤ f8 ∧ f8 ≤ (blkL (upN G (shN A) (4 * c))).length) := Lib.hid (by rw [hbl]; omega)
                    have HGT := Lib.hid (World.rowIs.lt r_t)
                    have HWB4 := Lib.hid (World.rowIs.lt r_t4)
                    have HWBs := Lib.hid (World.rowIs.lt r_s)
                    clear hX hXl hXg hbl hub hf8 hf4 hc hlc
                    go_wp2_with (first
                      | (have hgo := Bw0; clear hgo
                         refine wpList_empty rfl rfl ?_
                         intro v_e w5 o_e kk
                         have HWS : Hid (Below w.heap.size w wr) := Lib.hid Bw0
                         replace r_t4 := zrb r_t4 kk
                         replace r_s := zrb r_s kk
                         replace r_t := zrb r_t kk
                         replace f_t := zfb f_t kk
                         have HB4 := Lib.hid (World.rowIs.lt r_t4)
                         have hsz := kk.size
                         have Bw1 := zbt HGS Bw0 kk
                         have HW0 := Lib.hid (HGS.out _ HWS.out)
                         clear Bw0 kk HB4)
                      | (have hgo := f_t; clear hgo
                         obtain ⟨v_x, f_x, hrx⟩ := partBA f_t f4 f8 HLM.out.1 HLM.out.2
                         rw [← HX.out] at f_x
                         refine wpList_value rfl _ (by rw [exec_mkOp]; exact hrx _ _ _ _ _ _ rfl rfl rfl) ?_
                         clear hrx f_t)
                      | (have hgo := Bw1; clear hgo
                         refine wpList_appA rfl (.tmp 73) (.tmp 80) rfl wr.heap.size _ _ [] X o_e f_x rfl rfl (by rw [HXL.out]; decide) hsz ?_
                         intro vx w6 o_x g6 ho6
                         rw [List.nil_append] at o_x
                         have hne : ∀ b, b < wr.heap.size → v_e.ownBlock ≠ some b := fun b hb e => absurd (Owns.block o_e _ e) (Nat.not_le_of_lt hb)
                         replace r_t4 := World.rowIs.of_block r_t4 (g6.block _ (World.rowIs.lt r_t4) (fun e => hne _ HWB4.out e.symm))
                         replace r_s := World.rowIs.of_block r_s (g6.block _ (World.rowIs.lt r_s) (fun e => hne _ HWBs.out e.symm))
                         replace r_t := World.rowIs.of_block r_t (g6.block _ (World.rowIs.lt r_t) (fun e => hne _ HGT.out e.symm))
                         have HAX : Hid (Away vx gt) := Lib.hid (Owns.away o_x HGT.out)
                         have Bw2 := Bw1.grown g6 (HGS.out _ Bw1) (fun j hj => Nat.le_trans HW0.out (Owns.block o_e j hj))
                         have f_x2 := o_x.bs
                         clear Bw1 g6 ho6 o_e f_x hsz o_x hne))
                    obtain ⟨gx, ox, cx, rfl, hz1, hz2, hz3, hz4⟩ := f_x2.open_n (n := 4) HXL.out (by decide)
                    clear hz1 hz2 hz3 hz4 hcI hw1 hw2
                    go_loopw [15] (fun rv wr => ∃ r : Nat, r ≤ 4 ∧ rv = .int .i64 (r : Int) ∧ wr.rowIs b_t4 48 256 (cF .u8 boxN) ∧ wr.rowIs gs 5 cs (sF A Fs) ∧ wr.rowIs gt 5 16 (sF (upN G (shN A) (4 * c + r)) Ft) ∧ Bs wr (.slice (some ⟨gx, ox, none⟩) 4 cx) X ∧ Below w.heap.size w wr) (fun rv _ => 4 - (intOf rv).toNat)
                    case atStart => exact ⟨0, by decide, rfl, r_t4, r_s, r_t, f_x2, Bw2⟩
                    case round =>
                      clear r_t4 r_s r_t f_x2 Bw2
                      obtain ⟨r, hr, rfl, r_t4, r_s, r_t, f_x, Bw0⟩ := hrel
                      by_cases hlr : r < 4
                      · have hc4 := HC.out
                        have hf4 := HF4.out
                        have hrI : 0 ≤ (r : Int) ∧ (r : Int) < 4 := by omega
                        obtain ⟨n, hn⟩ := nat_var (f4 + r)
                        have hw1 : IntKind.i64.wrap (4 * (c : Int)) = (f4 : Int) := by rw [IntWalk.i64_in _ (by omega)]; omega
                        have hw2 : IntKind.i64.wrap ((f4 : Int) + (r : Int)) = (n : Int) := by rw [IntWalk.i64_in _ (by omega)]; omega
                        have hnI : 0 ≤ (n : Int) ∧ (n : Int) < 16 := by omega
                        obtain ⟨x0, hx0⟩ := nat_var (X.getD r 0).toNat
                        have d0 := bs_cell f_x r (by rw [HXL.out]; omega)
                        rw [← getD_at X r (by rw [HXL.out]; omega), ← hx0] at d0
                        replace d0 : wr.drew.cell? ⟨gx, ox + r, none⟩ = some (.int .u8 (x0 : Int)) := d0
                        obtain ⟨r1, hr1⟩ := nat_var (r + 1)
                        obtain ⟨q1, hq1⟩ := nat_var (r1 % 4)
                        have hv1 : IntKind.i64.wrap ((r : Int) + 1) = (r1 : Int) := by rw [IntWalk.i64_in _ (by omega)]; omega
                        have hu1 : (r1 : Int).tmod 4 = (q1 : Int) := by rw [Int.tmod_eq_emod_of_nonneg (by omega)]; omega
                        have ht1 : IntKind.i64.wrap ((r1 : Int).tmod 4) = (q1 : Int) := by rw [hu1, IntWalk.i64_in _ (by omega)]
                        have hqi1 : 0 ≤ (q1 : Int) ∧ (q1 : Int) < 4 := by omega
                        obtain ⟨x1, hx1⟩ := nat_var (X.getD q1 0).toNat
                        have d1 := bs_cell f_x q1 (by rw [HXL.out]; omega)
                        rw [← getD_at X q1 (by rw [HXL.out]; omega), ← hx1] at d1
                        replace d1 : wr.drew.cell? ⟨gx, ox + q1, none⟩ = some (.int .u8 (x1 : Int)) := d1
                        obtain ⟨r2, hr2⟩ := nat_var (r + 2)
                        obtain ⟨q2, hq2⟩ := nat_var (r2 % 4)
                        have hv2 : IntKind.i64.wrap ((r : Int) + 2) = (r2 : Int) := by rw [IntWalk.i64_in _ (by omega)]; omega
                        have hu2 : (r2 : Int).tmod 4 = (q2 : Int) := by rw [Int.tmod_eq_emod_of_nonneg (by omega)]; omega
                        have ht2 : IntKind.i64.wrap ((r2 : Int).tmod 4) = (q2 : Int) := by rw [hu2, IntWalk.i64_in _ (by omega)]
                        have hqi2 : 0 ≤ (q2 : Int) ∧ (q2 : Int) < 4 := by omega
                        obtain ⟨x2, hx2⟩ := nat_var (X.getD q2 0).toNat
                        have d2 := bs_cell f_x q2 (by rw [HXL.out]; omega)
                        rw [← getD_at X q2 (by rw [HXL.out]; omega), ← hx2] at d2
                        replace d2 : wr.drew.cell? ⟨gx, ox + q2, none⟩ = some (.int .u8 (x2 : Int)) := d2
                        obtain ⟨r3, hr3⟩ := nat_var (r + 3)
                        obtain ⟨q3, hq3⟩ := nat_var (r3 % 4)
                        have hv3 : IntKind.i64.wrap ((r : Int) + 3) = (r3 : Int) := by rw [IntWalk.i64_in _ (by omega)]; omega
                        have hu3 : (r3 : Int).tmod 4 = (q3 : Int) := by rw [Int.tmod_eq_emod_of_nonneg (by omega)]; omega
                        have ht3 : IntKind.i64.wrap ((r3 : Int).tmod 4) = (q3 : Int) := by rw [hu3, IntWalk.i64_in _ (by omega)]
                        have hqi3 : 0 ≤ (q3 : Int) ∧ (q3 : Int) < 4 := by omega
                        obtain ⟨x3, hx3⟩ := nat_var (X.getD q3 0).toNat
                        have d3 := bs_cell f_x q3 (by rw [HXL.out]; omega)
                        rw [← getD_at X q3 (by rw [HXL.out]; omega), ← hx3] at d3
                        replace d3 : wr.drew.cell? ⟨gx, ox + q3, none⟩ = some (.int .u8 (x3 : Int)) := d3
                        have HXB0 : Hid (x0 < 256) := Lib.hid (by rw [hx0]; exact UInt8.toNat_lt _)
                        have HXB1 : Hid (x1 < 256) := Lib.hid (by rw [hx1]; exact UInt8.toNat_lt _)
                        have hb2 : x2 < 256 := by rw [hx2]; exact UInt8.toNat_lt _
                        have hb3 : x3 < 256 := by rw [hx3]; exact UInt8.toNat_lt _
                        obtain ⟨y1, hy1⟩ := nat_var (gfm x0 2 ^^^ gfm x1 3)
                        obtain ⟨y2, hy2⟩ := nat_var (y1 ^^^ x2)
                        obtain ⟨z, hz⟩ := nat_var (y2 ^^^ x3)
                        have hy1l : y1 < 256 := by rw [hy1]; exact xor_lt8 (gfm_lt _ _ HXB0.out) (gfm_lt _ _ HXB1.out)
                        have hy2l : y2 < 256 := by rw [hy2]; exact xor_lt8 hy1l hb2
                        have e1 : bits .xor .u8 ((gfm x0 2 : Nat) : Int) ((gfm x1 3 : Nat) : Int) = (y1 : Int) := by rw [hy1]; exact bits_xorN _ _ (gfm_lt _ _ HXB0.out) (gfm_lt _ _ HXB1.out)
                        have e2 : bits .xor .u8 (y1 : Int) (x2 : Int) = (y2 : Int) := by rw [hy2]; exact bits_xorN _ _ hy1l hb2
                        have e3 : bits .xor .u8 (y2 : Int) (x3 : Int) = (z : Int) := by rw [hz]; exact bits_xorN _ _ hy2l hb3
                        have HZ : Hid (G n = z) := Lib.hid (by
                          rw [HGM.out]
                          unfold mixN
                          rw [show n / 4 = c by omega, show n % 4 = r by omega, ← hf4, hz, hy2, hy1, hx0, hx1, hx2, hx3, HXG.out r hlr, HXG.out q1 (by omega), HXG.out q2 (by omega), HXG.out q3 (by omega), hq1, hq2, hq3, hr1, hr2, hr3])
                        have HNL : Hid (n < 16) := Lib.hid (by omega)
                        have HNE : Hid (4 * c + r = n) := Lib.hid (by omega)
                        have HR := Lib.hid hlr
                        have HR1 := Lib.hid hr1
                        rw [HNE.out] at r_t
                        clear hc4 hf4 hn hr hlr hr1 hr2 hr3 hq1 hq2 hq3 hx0 hx1 hx2 hx3 hb2 hb3 hy1 hy2 hz hy1l hy2l
                        replace r_t4 := World.rowIs.drew r_t4
                        replace r_s := World.rowIs.drew r_s
                        replace r_t := World.rowIs.drew r_t
                        replace f_x := Bs.drew f_x
                        replace Bw0 := Bw0.drew
                        go_wp2
                        refine ea_start [(0, some [33]), (1, some [33]), (2, some [33]), (3, some [33]), (4, some [33]), (5, some [33]), (6, some [33]), (7, some [33]), (8, some [9]), (10, some [33]), (11, some [33]), (12, some [33]), (13, some [33]), (14, some [33]), (15, some [16]), (18, some [33]), (19, some [33]), (20, some [33]), (21, some [33]), (22, some [33]), (23, some [33]), (25, some [33]), (26, some [33]), (27, some [33]), (28, some [33]), (29, some [33]), (30, some [33]), (9, none), (16, none), (17, some [33]), (24, some [33]), (31, some [33]), (32, some [33]), (33, none)] (by kernel_rfl) (by kernel_rfl) (by decide) (by kernel_rfl) (fun d _ _ _ _ h => by cases d <;> exact h) ?_
                        refine ea_rd 86 (.slice (some ⟨gt, 0, none⟩) 16 16) rfl rfl rfl rfl rfl (by unfold mkOp; go_simp; all_goals (with_reducible rfl)) ?_
                        simp only [Act.put, zA, zB, zC]
                        refine ea_rd 87 (.int .i64 (c : Int)) rfl rfl rfl rfl rfl (by unfold mkOp; go_simp; all_goals (with_reducible rfl)) ?_
                        simp only [Act.put, zA, zB, zC]
                        refine ea_rd 88 (.int .i64 (f4 : Int)) rfl rfl rfl rfl rfl (by unfold mkOp; go_simp; all_goals (with_reducible rfl)) ?_
                        simp only [Act.put, zA, zB, zC]
                        refine ea_rd 89 (.int .i64 (r : Int)) rfl rfl rfl rfl rfl (by unfold mkOp; go_simp; all_goals (with_reducible rfl)) ?_
                        simp only [Act.put, zA, zB, zC]
                        refine ea_rd 90 (.int .i64 (n : Int)) rfl rfl rfl rfl rfl (by unfold mkOp; go_simp; all_goals (with_reducible rfl)) ?_
                        simp only [Act.put, zA, zB, zC]
                        refine ea_rd 91 (.slice (some ⟨gx, ox, none⟩) 4 cx) rfl rfl rfl rfl rfl (by unfold mkOp; go_simp; all_goals (with_reducible rfl)) ?_
                        simp only [Act.put, zA, zB, zC]
                        refine ea_rd 92 (.int .i64 (r : Int)) rfl rfl rfl rfl rfl (by unfold mkOp; go_simp; all_goals (with_reducible rfl)) ?_
                        simp only [Act.put, zA, zB, zC]
                        refine ea_rd 93 (.pointer (some ⟨gx, ox + r, none⟩)) rfl rfl rfl rfl rfl (by unfold mkOp; go_simp; all_goals (with_reducible rfl)) ?_
                        simp only [Act.put, zA, zB, zC]
                        refine ea_rd 94 (.int .u8 (x0 : Int)) rfl rfl rfl rfl rfl (by have c9 := d0; unfold mkOp; go_simp; all_goals (with_reducible rfl)) ?_
                        simp only [Act.put, zA, zB, zC]
                        refine ea_rd 96 (.slice (some ⟨gx, ox, none⟩) 4 cx) rfl rfl rfl rfl rfl (by unfold mkOp; go_simp; all_goals (with_reducible rfl)) ?_
                        simp only [Act.put, zA, zB, zC]
                        refine ea_rd 97 (.int .i64 (r : Int)) rfl rfl rfl rfl rfl (by unfold mkOp; go_simp; all_goals (with_reducible rfl)) ?_
                        simp only [Act.put, zA, zB, zC]
                        refine ea_rd 98 (.int .i64 (r1 : Int)) rfl rfl rfl rfl rfl (by unfold mkOp; go_simp; all_goals (with_reducible rfl)) ?_
                        simp only [Act.put, zA, zB, zC]
                        refine ea_rd 99 (.int .i64 (q1 : Int)) rfl rfl rfl rfl rfl (by unfold mkOp; go_simp; all_goals (with_reducible rfl)) ?_
                        simp only [Act.put, zA, zB, zC]
                        refine ea_rd 100 (.pointer (some ⟨gx, ox + q1, none⟩)) rfl rfl rfl rfl rfl (by unfold mkOp; go_simp; all_goals (with_reducible rfl)) ?_
                        simp only [Act.put, zA, zB, zC]
                        refine ea_rd 101 (.int .u8 (x1 : Int)) rfl rfl rfl rfl rfl (by have c9 := d1; unfold mkOp; go_simp; all_goals (with_reducible rfl)) ?_
                        simp only [Act.put, zA, zB, zC]
                        refine ea_rd 104 (.slice (some ⟨gx, ox, none⟩) 4 cx) rfl rfl rfl rfl rfl (by unfold mkOp; go_simp; all_goals (with_reducible rfl)) ?_
                        simp only [Act.put, zA, zB, zC]
                        refine ea_rd 105 (.int .i64 (r : Int)) rfl rfl rfl rfl rfl (by unfold mkOp; go_simp; all_goals (with_reducible rfl)) ?_
                        simp only [Act.put, zA, zB, zC]
                        refine ea_rd 106 (.int .i64 (r2 : Int)) rfl rfl rfl rfl rfl (by unfold mkOp; go_simp; all_goals (with_reducible rfl)) ?_
                        simp only [Act.put, zA, zB, zC]
                        refine ea_rd 107 (.int .i64 (q2 : Int)) rfl rfl rfl rfl rfl (by unfold mkOp; go_simp; all_goals (with_reducible rfl)) ?_
                        simp only [Act.put, zA, zB, zC]
                        refine ea_rd 108 (.pointer (some ⟨gx, ox + q2, none⟩)) rfl rfl rfl rfl rfl (by unfold mkOp; go_simp; all_goals (with_reducible rfl)) ?_
                        simp only [Act.put, zA, zB, zC]
                        refine ea_rd 109 (.int .u8 (x2 : Int)) rfl rfl rfl rfl rfl (by have c9 := d2; unfold mkOp; go_simp; all_goals (with_reducible rfl)) ?_
                        simp only [Act.put, zA, zB, zC]
                        refine ea_rd 111 (.slice (some ⟨gx, ox, none⟩) 4 cx) rfl rfl rfl rfl rfl (by unfold mkOp; go_simp; all_goals (with_reducible rfl)) ?_
                        simp only [Act.put, zA, zB, zC]
                        refine ea_rd 112 (.int .i64 (r : Int)) rfl rfl rfl rfl rfl (by unfold mkOp; go_simp; all_goals (with_reducible rfl)) ?_
                        simp only [Act.put, zA, zB, zC]
                        refine ea_rd 113 (.int .i64 (r3 : Int)) rfl rfl rfl rfl rfl (by unfold mkOp; go_simp; all_goals (with_reducible rfl)) ?_
                        simp only [Act.put, zA, zB, zC]
                        refine ea_rd 114 (.int .i64 (q3 : Int)) rfl rfl rfl rfl rfl (by unfold mkOp; go_simp; all_goals (with_reducible rfl)) ?_
                        simp only [Act.put, zA, zB, zC]
                        refine ea_rd 115 (.pointer (some ⟨gx, ox + q3, none⟩)) rfl rfl rfl rfl rfl (by unfold mkOp; go_simp; all_goals (with_reducible rfl)) ?_
                        simp only [Act.put, zA, zB, zC]
                        refine ea_rd 116 (.int .u8 (x3 : Int)) rfl rfl rfl rfl rfl (by have c9 := d3; unfold mkOp; go_simp; all_goals (with_reducible rfl)) ?_
                        simp only [Act.put, zA, zB, zC]
                        refine ea_call 95 (gmul_any x0 2 _ HXB0.out (by decide)) rfl rfl rfl rfl Try.func39 (by kernel_rfl) (by kernel_rfl) (by go_simp) ?_
                        simp only [Act.put, zA, zB, zC]
                        refine ea_call 102 (gmul_any x1 3 _ HXB1.out (by decide)) rfl rfl rfl rfl Try.func39 (by kernel_rfl) (by kernel_rfl) (by go_simp) ?_
                        simp only [Act.put, zA, zB, zC]
                        refine ea_rd 103 (.int .u8 (y1 : Int)) rfl rfl rfl rfl rfl (by unfold mkOp; go_simp; all_goals (with_reducible rfl)) ?_
                        simp only [Act.put, zA, zB, zC]
                        refine ea_rd 110 (.int .u8 (y2 : Int)) rfl rfl rfl rfl rfl (by unfold mkOp; go_simp; all_goals (with_reducible rfl)) ?_
                        simp only [Act.put, zA, zB, zC]
                        refine ea_rd 117 (.int .u8 (z : Int)) rfl rfl rfl rfl rfl (by unfold mkOp; go_simp; all_goals (with_reducible rfl)) ?_
                        simp only [Act.put, zA, zB, zC]
                        refine ea_rd 118 (.pointer (some ⟨gt, n, none⟩)) rfl rfl rfl rfl rfl (by unfold mkOp; go_simp; all_goals (with_reducible rfl)) ?_
                        simp only [Act.put, zA, zB, zC]
                        refine ea_store (upN G (shN A) (n + 1)) rfl rfl rfl rfl rfl rfl r_t (Nat.le_refl _) HNL.out rfl rfl (by kernel_rfl) (upN_step _ _ n z HZ.out) ?_
                        intro w7 q7 g7
                        refine le_end ?_
                        replace r_t4 := gb_rowIs r_t4 g7 HN4t.out
                        replace r_s := gb_rowIs r_s g7 HNst.out
                        replace f_x := gb_bs f_x g7 HAX.out
                        have Bw1 := zbg HGS Bw0 g7 HLT.out
                        clear Bw0 g7 r_t e1 e2 e3 hw1 hw2 hnI d0 d1 d2 d3
                        go_wp2
                        go_roundw
                        case rel => exact ⟨r + 1, HR.out, by rw [HR1.out], r_t4, r_s, by rw [← Nat.add_assoc, HNE.out]; exact q7, f_x, Bw1⟩
                        case measure => (have := HR.out; have := HR1.out; simp [intOf]; try omega)
                      · obtain rfl : r = 4 := by omega
                        have hc4 := HC.out
                        obtain ⟨c1, hc1⟩ := nat_var (c + 1)
                        have hwc : IntKind.i64.wrap ((c : Int) + 1) = (c1 : Int) := by rw [IntWalk.i64_in _ (by omega)]; omega
                        have HC1 := Lib.hid hc1
                        clear hr hlr hc4 hc1
                        go_wp2
                        go_roundw
                        case rel => exact ⟨c + 1, HC.out, by rw [HC1.out], r_t4, r_s, r_t, Bw0⟩
                        case measure => (have := HC.out; have := HC1.out; simp [intOf]; try omega)
                  · obtain rfl : c = 4 := by omega
                    replace r_t := sF_all r_t
                    clear hc hlc
                    rw [show ((4 : Nat) : Int) = 4 from rfl]
                    go_wp2
                    go_loopw [16] (fun iv wr => ∃ j : Nat, j ≤ 16 ∧ iv = .int .i64 (j : Int) ∧ wr.rowIs b_t4 48 256 (cF .u8 boxN) ∧ wr.rowIs gs 5 cs (sF (upN (arkN G (nB l0) k1) A j) Fs) ∧ wr.rowIs gt 5 16 (sF G Ft) ∧ Below w.heap.size w wr) (fun iv _ => 16 - (intOf iv).toNat)
                    case atStart => exact ⟨0, by decide, rfl, r_t4, by rw [upN_zero]; exact r_s, r_t, Bw0⟩
                    case round =>
                      clear r_t4 r_s r_t Bw0
                      obtain ⟨j, hj, rfl, r_t4, r_s, r_t, Bw0⟩ := hrel
                      by_cases hlj : j < 16
                      · have hjI : 0 ≤ (j : Int) ∧ (j : Int) < 16 := by omega
                        have HJ := Lib.hid hlj
                        have hK1 := HK1.out
                        have hK := HK.out
                        obtain ⟨m, hm⟩ := nat_var (16 * k1)
                        obtain ⟨q, hq⟩ := nat_var (m + j)
                        have hw1 : IntKind.i64.wrap (16 * (k1 : Int)) = (m : Int) := by rw [IntWalk.i64_in _ (by omega)]; omega
                        have hw2 : IntKind.i64.wrap ((m : Int) + (j : Int)) = (q : Int) := by rw [IntWalk.i64_in _ (by omega)]; omega
                        have hql : q < 240 := by omega
                        have hqI : 0 ≤ (q : Int) ∧ (q : Int) < 240 := by omega
                        obtain ⟨x, hx⟩ := nat_var (G j)
                        obtain ⟨y, hy⟩ := nat_var (nB l0 q)
                        obtain ⟨z, hz⟩ := nat_var (x ^^^ y)
                        have e1 : bits .xor .u8 (x : Int) (y : Int) = (z : Int) := by rw [hz]; exact bits_xorN x y (by rw [hx]; exact HGL.out j) (by rw [hy]; exact nB_lt _ _)
                        have HZ : Hid (arkN G (nB l0) k1 j = z) := Lib.hid (by unfold arkN; rw [hz, hx, hy, hq, hm])
                        have c1 := sF_cell r_t (Nat.le_refl _) j hlj (x := x) hx.symm
                        have c2 := bs_cell (HF.out.below Bw0 (Nat.le_refl _)) q (by rw [HL0.out]; exact hql)
                        rw [← getD_at l0 q (by rw [HL0.out]; exact hql), show (l0.getD q 0).toNat = y from hy.symm] at c2
                        have c3 := r_s.cell (i := j) (by have := HCS.out.1; omega)
                        have hfr := r_s.frozen j
                        clear hx hy hz hj hlj hm hq hql hK hK1
                        go_wp2
                        go_region
                        go_wp2
                        go_roundw
                        case rel => exact ⟨j + 1, HJ.out, by have := HJ.out; go_num, World.rowIs.setOther r_t4.drew HN4.out _, sF_set r_s.drew j z HJ.out (upN_step _ _ j z HZ.out), World.rowIs.setOther r_t.drew (Ne.symm HNst.out) _, (Bw0.drew).setCell HGB.out _⟩
                        case measure => (have := HJ.out; simp [intOf]; try omega)
                      · obtain rfl : j = 16 := by omega
                        replace r_s := sF_all r_s
                        have hst : arkN G (nB l0) k1 = stN (nB l2) (nB l0) (k + 1) := by
                          show _ = rdN (stN (nB l2) (nB l0) k) (nB l0) (k + 1)
                          unfold rdN
                          rw [← HA.out, ← HK1.out, ← HGE.out]
                        rw [hst] at r_s
                        have hK := HK.out
                        have hK1 := HK1.out
                        obtain ⟨k2, hk2⟩ := nat_var (k1 + 1)
                        have hwk : IntKind.i64.wrap ((k1 : Int) + 1) = (k2 : Int) := by rw [IntWalk.i64_in _ (by omega)]; omega
                        have HK2 : Hid (k2 = k + 1 + 1) := Lib.hid (by omega)
                        clear hj hlj hst hK hK1 hk2
                        go_wp2
                        go_roundw
                        case rel => exact ⟨k + 1, HK.out, by rw [HK2.out], r_t4, r_s, Bw0⟩
                        case measure => (have := HK.out; have := HK1.out; have := HK2.out; simp [intOf]; try omega)
              · have h14I : ((k1 : Int) < 14) = False := eq_false (by omega)
                obtain ⟨G, hG⟩ : ∃ G, G = shN A := ⟨_, rfl⟩
                have HGE : Hid (G = if k1 < 14 then mixN (shN A) else shN A) := Lib.hid (by rw [if_neg h14]; exact hG)
                have HGL : Hid (∀ j, G j < 256) := Lib.hid (by rw [hG]; exact shN_lt A)
                rw [← hG] at r_t
                clear h14 hG
                go_wp2
                clear h14I
                go_loopw [16] (fun iv wr => ∃ j : Nat, j ≤ 16 ∧ iv = .int .i64 (j : Int) ∧ wr.rowIs b_t4 48 256 (cF .u8 boxN) ∧ wr.rowIs gs 5 cs (sF (upN (arkN G (nB l0) k1) A j) Fs) ∧ wr.rowIs gt 5 16 (sF G Ft) ∧ Below w.heap.size w wr) (fun iv _ => 16 - (intOf iv).toNat)
                case atStart => exact ⟨0, by decide, rfl, r_t4, by rw [upN_zero]; exact r_s, r_t, Bw0⟩
                case round =>
                  clear r_t4 r_s r_t Bw0
                  obtain ⟨j, hj, rfl, r_t4, r_s, r_t, Bw0⟩ := hrel
                  by_cases hlj : j < 16
                  · have hjI : 0 ≤ (j : Int) ∧ (j : Int) < 16 := by omega
                    have HJ := Lib.hid hlj
                    have hK1 := HK1.out
                    have hK := HK.out
                    obtain ⟨m, hm⟩ := nat_var (16 * k1)
                    obtain ⟨q, hq⟩ := nat_var (m + j)
                    have hw1 : IntKind.i64.wrap (16 * (k1 : Int)) = (m : Int) := by rw [IntWalk.i64_in _ (by omega)]; omega
                    have hw2 : IntKind.i64.wrap ((m : Int) + (j : Int)) = (q : Int) := by rw [IntWalk.i64_in _ (by omega)]; omega
                    have hql : q < 240 := by omega
                    have hqI : 0 ≤ (q : Int) ∧ (q : Int) < 240 := by omega
                    obtain ⟨x, hx⟩ := nat_var (G j)
                    obtain ⟨y, hy⟩ := nat_var (nB l0 q)
                    obtain ⟨z, hz⟩ := nat_var (x ^^^ y)
                    have e1 : bits .xor .u8 (x : Int) (y : Int) = (z : Int) := by rw [hz]; exact bits_xorN x y (by rw [hx]; exact HGL.out j) (by rw [hy]; exact nB_lt _ _)
                    have HZ : Hid (arkN G (nB l0) k1 j = z) := Lib.hid (by unfold arkN; rw [hz, hx, hy, hq, hm])
                    have c1 := sF_cell r_t (Nat.le_refl _) j hlj (x := x) hx.symm
                    have c2 := bs_cell (HF.out.below Bw0 (Nat.le_refl _)) q (by rw [HL0.out]; exact hql)
                    rw [← getD_at l0 q (by rw [HL0.out]; exact hql), show (l0.getD q 0).toNat = y from hy.symm] at c2
                    have c3 := r_s.cell (i := j) (by have := HCS.out.1; omega)
                    have hfr := r_s.frozen j
                    clear hx hy hz hj hlj hm hq hql hK hK1
                    go_wp2
                    go_region
                    go_wp2
                    go_roundw
                    case rel => exact ⟨j + 1, HJ.out, by have := HJ.out; go_num, World.rowIs.setOther r_t4.drew HN4.out _, sF_set r_s.drew j z HJ.out (upN_step _ _ j z HZ.out), World.rowIs.setOther r_t.drew (Ne.symm HNst.out) _, (Bw0.drew).setCell HGB.out _⟩
                    case measure => (have := HJ.out; simp [intOf]; try omega)
                  · obtain rfl : j = 16 := by omega
                    replace r_s := sF_all r_s
                    have hst : arkN G (nB l0) k1 = stN (nB l2) (nB l0) (k + 1) := by
                      show _ = rdN (stN (nB l2) (nB l0) k) (nB l0) (k + 1)
                      unfold rdN
                      rw [← HA.out, ← HK1.out, ← HGE.out]
                    rw [hst] at r_s
                    have hK := HK.out
                    have hK1 := HK1.out
                    obtain ⟨k2, hk2⟩ := nat_var (k1 + 1)
                    have hwk : IntKind.i64.wrap ((k1 : Int) + 1) = (k2 : Int) := by rw [IntWalk.i64_in _ (by omega)]; omega
                    have HK2 : Hid (k2 = k + 1 + 1) := Lib.hid (by omega)
                    clear hj hlj hst hK hK1 hk2
                    go_wp2
                    go_roundw
                    case rel => exact ⟨k + 1, HK.out, by rw [HK2.out], r_t4, r_s, Bw0⟩
                    case measure => (have := HK.out; have := HK1.out; have := HK2.out; simp [intOf]; try omega)
        · obtain rfl : k = 14 := by omega
          have hkI : ¬ (k1 : Int) ≤ 14 := by omega
          rw [← HRES.out] at r_s
          clear hk hlt hk1
          go_wp2
          go_ret
          refine ⟨_, rfl, ?_, Bw0⟩
          exact Bs16 r_s HCS.out.1 HCS.out.2 (by rw [HRES.out]; exact stN_lt _ _ (nB_lt _) (nB_lt _) 14)
end Go.Proofs.Ytiapkfeamochfaa

/- AES of the document: Block. -/
namespace Go.Proofs.Ytiapkfeamochfaa
open Go.RowKit Go.Deep
set_option linter.unusedSimpArgs false
set_option linter.unusedVariables false

theorem schL_len (l : List UInt8) (h : l.length = 32) : (schL l).length = 240 := schS_len l h 52
/-- AES of a block. -/
def aesL (key b : List UInt8) : List UInt8 := blkL (stN (nB b) (nB (schL key)) 14)
theorem aesL_len (key b : List UInt8) : (aesL key b).length = 16 := by simp [aesL, blkL]
theorem blockW_to (v0 : Value) (l0 : List UInt8) (v2 : Value) (k l2 : List UInt8) (w : World) (hk : l0 = schL k) (hl : k.length = 32) (h0 : Bs w v0 l0) (h2 : Bs w v2 l2) (hl2 : l2.length = 16) : Calls Try.prog 25 #[v0, .agg (arrOf 256 (cF .u8 boxN)), v2] w fun e w' => ∃ v, e = .returned v ∧ Bs w' v (aesL k l2) ∧ Below w.heap.size w w' := by
  have h := refBlockW_any v0 l0 v2 l2 w h0 (by rw [hk]; exact schL_len k hl) h2 hl2
  rw [hk] at h
  unfold aesL
  exact h
set_option maxHeartbeats 4000000 in
set_option maxRecDepth 20000 in
theorem refBlock_any (v0 : Value) (l0 : List UInt8) (v1 : Value) (l1 : List UInt8) (w : World) (h0 : Bs w v0 l0) (hl0 : l0.length = 32) (h1 : Bs w v1 l1) (hl1 : l1.length = 16) : Calls Try.prog 11 #[v0, v1] w fun e w' => ∃ v, e = .returned (.tuple #[v, .int .i64 0]) ∧ Bs w' v (aesL l0 l1) ∧ Below w.heap.size w w' := by
  obtain ⟨ad0, n0, c0, rfl, e0, y0, z0, hB0⟩ := h0.shape
  have d0 : n0 = 32 := by omega
  subst d0
  have f_s0 := hB0
  have HF_s0 := Lib.hid hB0
  have HL0 := Lib.hid hl0
  clear h0 hB0 e0 hl0
  obtain ⟨ad1, n1, c1, rfl, e1, y1, z1, hB1⟩ := h1.shape
  have d1 : n1 = 16 := by omega
  subst d1
  have f_s1 := hB1
  have HF_s1 := Lib.hid hB1
  have HL1 := Lib.hid hl1
  clear h1 hB1 e1 hl1
  have Bw0 := Below.refl w.heap.size w
  have HGS : Hid (∀ wq : World, Below w.heap.size w wq → w.heap.size ≤ wq.heap.size) := Lib.hid fun wq h => h.size
  go_enter Try.func11, Try.ntmps11
  go_wp2_with (first
    | (have hgo := Bw0; clear hgo
       go_at_call 24
       refine (boxes_any _).mono ?_
       rintro e w11 ⟨rfl, kk⟩
       replace f_s0 := zfb f_s0 kk
       replace f_s1 := zfb f_s1 kk
       have Bw1 := zbt HGS Bw0 kk
       clear Bw0 kk)
    | (have hgo := Bw1; clear hgo
       refine wpList_alloc_row rfl 48 rfl 256 (cF .u8 fun _ => 0) zeroB256 ?_
       intro b_t6 w12 lk r_t6 kk
       have l_t6 := zrl HGS Bw1 lk
       have a_s0_t6 := Bs.away f_s0 lk
       have a_s1_t6 := Bs.away f_s1 lk
       replace f_s0 := zfb f_s0 kk
       replace f_s1 := zfb f_s1 kk
       have Bw2 := zbt HGS Bw1 kk
       clear Bw1 kk lk)
    | (have hgo := Bw2; clear hgo
       refine wpList_store_as rfl 48 (.tmp 6) (.tmp 15) rfl 256 (cF .u8 boxN) arrB256 r_t6 rfl rfl (by omega) (fun _ _ => rfl) (fun i hi => putN_whole hi) ?_
       intro w13 q gk
       replace r_t6 := q
       have Bw3 := zbg HGS Bw2 gk l_t6
       replace f_s0 := gb_bs f_s0 gk a_s0_t6
       replace f_s1 := gb_bs f_s1 gk a_s1_t6
       clear Bw2 gk q))
  have Bw4 := Bw3.drew
  replace r_t6 := World.rowIs.drew r_t6
  replace f_s0 := Bs.drew f_s0
  replace f_s1 := Bs.drew f_s1
  clear Bw3
  refine wp_region_lint (.rd 0 (.rd 1 (.rd 3 (.rd 4 (.wr 2 (.wr 5 (.rd 6 (.rd 7 .done)))))))) (by kernel_rfl) (by kernel_rfl) (by decide) (by kernel_rfl) (fun d _ _ _ _ h => by cases d <;> exact h) ?_
  refine lint_pure 16 (Op.move (Operand.tmp 0)) 22 (.slice ad0 32 c0) rfl rfl rfl rfl rfl (fun w0 hb0 => by unfold mkOp; go_simp; all_goals (with_reducible rfl)) ?_
  simp only [Act.put, zA, zB, zC]
  refine lint_pure 17 (Op.load 48 (Operand.tmp 6)) 48 (.agg (arrOf 256 (cF .u8 boxN))) rfl rfl rfl rfl rfl (fun w0 hb0 => by exact exec_load_as _ _ _ _ (cF .u8 boxN) rfl arrB256 (World.rowIs.of_block r_t6 (hb0.block _ (World.rowIs.lt r_t6))) (by omega) (fun i hi => by rw [Nat.zero_add])) ?_
  simp only [Act.put, zA, zB, zC]
  refine lint_pure 19 (Op.load 48 (Operand.tmp 6)) 48 (.agg (arrOf 256 (cF .u8 boxN))) rfl rfl rfl rfl rfl (fun w0 hb0 => by exact exec_load_as _ _ _ _ (cF .u8 boxN) rfl arrB256 (World.rowIs.of_block r_t6 (hb0.block _ (World.rowIs.lt r_t6))) (by omega) (fun i hi => by rw [Nat.zero_add])) ?_
  simp only [Act.put, zA, zB, zC]
  refine lint_pure 20 (Op.move (Operand.tmp 1)) 22 (.slice ad1 16 c1) rfl rfl rfl rfl rfl (fun w0 hb0 => by unfold mkOp; go_simp; all_goals (with_reducible rfl)) ?_
  simp only [Act.put, zA, zB, zC]
  refine stp_fn 18 26 #[Operand.tmp 16, Operand.tmp 17] #[22, 48] _ (refSchedule_any _ l0 _ f_s0 HL0.out) rfl rfl rfl rfl Try.func26 (by kernel_rfl) (by kernel_rfl) (by go_simp) ?_
  rintro e w14 ⟨v_s18, rfl, o_s18, kk⟩
  refine ⟨_, rfl, kk, ?_⟩
  replace r_t6 := zrb r_t6 kk
  replace f_s0 := zfb f_s0 kk
  replace f_s1 := zfb f_s1 kk
  have Bw5 := zbt HGS Bw4 kk
  clear Bw4 kk
  have f_s18 := o_s18.bs
  clear o_s18
  simp only [Act.put, zA, zB, zC]
  refine stp_fn 21 25 #[Operand.tmp 18, Operand.tmp 19, Operand.tmp 20] #[22, 48, 22] _ (blockW_to _ _ _ l0 l1 _ rfl HL0.out f_s18 f_s1 HL1.out) rfl rfl rfl rfl Try.func25 (by kernel_rfl) (by kernel_rfl) (by go_simp) ?_
  rintro e w15 ⟨v_s21, rfl, f_s21, kk⟩
  refine ⟨_, rfl, kk, ?_⟩
  replace r_t6 := zrb r_t6 kk
  replace f_s0 := zfb f_s0 kk
  replace f_s1 := zfb f_s1 kk
  replace f_s18 := zfb f_s18 kk
  have Bw6 := zbt HGS Bw5 kk
  clear Bw5 kk
  simp only [Act.put, zA, zB, zC]
  refine lint_pure 4 (Op.assign (Operand.tmp 21)) 22 (v_s21) rfl rfl rfl rfl rfl (fun w0 hb0 => by unfold mkOp; go_simp; all_goals (with_reducible rfl)) ?_
  simp only [Act.put, zA, zB, zC]
  refine lint_pure 5 (Op.assign (Operand.const (Value.int IntKind.i64 0))) 3 ((.int .i64 0)) rfl rfl rfl rfl rfl (fun w0 hb0 => by unfold mkOp; go_simp; all_goals (with_reducible rfl)) ?_
  simp only [Act.put, zA, zB, zC]
  refine lint_end ?_
  go_wp2
  go_ret2
  exact ⟨_, rfl, f_s21, Bw6⟩
end Go.Proofs.Ytiapkfeamochfaa

/- AES: words of four bytes. -/
namespace Go.Proofs.Ytiapkfeamochfaa
open Go.RowKit Go.Deep
set_option linter.unusedSimpArgs false
set_option linter.unusedVariables false

/-- A word of four bytes. -/
def w4 (a b c d : Nat) : Nat := ((a * 256 + b) * 256 + c) * 256 + d
def wd (A : Nat → Nat) (c : Nat) : Nat := w4 (A (4 * c)) (A (4 * c + 1)) (A (4 * c + 2)) (A (4 * c + 3))
theorem w4_lt {a b c d : Nat} (ha : a < 256) (hb : b < 256) (hc : c < 256) (hd : d < 256) : w4 a b c d < 4294967296 := by unfold w4; omega
theorem wd_lt {A : Nat → Nat} (h : ∀ j, A j < 256) (c : Nat) : wd A c < 4294967296 := w4_lt (h _) (h _) (h _) (h _)
theorem xor_cat (x y p q : Nat) (hp : p < 256) (hq : q < 256) : (x * 256 + p) ^^^ (y * 256 + q) = (x ^^^ y) * 256 + (p ^^^ q) := by
  have hr : p ^^^ q < 256 := xor_lt8 hp hq
  apply Nat.eq_of_testBit_eq
  intro i
  rw [Nat.testBit_xor, Nat.mul_comm x, Nat.mul_comm y, Nat.mul_comm (x ^^^ y), Nat.testBit_two_pow_mul_add (i := 8) x hp, Nat.testBit_two_pow_mul_add (i := 8) y hq, Nat.testBit_two_pow_mul_add (i := 8) (x ^^^ y) hr, Nat.testBit_xor, Nat.testBit_xor]
  split <;> rfl
theorem or_cat (x y p q : Nat) (hp : p < 256) (hq : q < 256) : (x * 256 + p) ||| (y * 256 + q) = (x ||| y) * 256 + (p ||| q) := by
  have hr : p ||| q < 256 := Nat.or_lt_two_pow (n := 8) hp hq
  apply Nat.eq_of_testBit_eq
  intro i
  rw [Nat.testBit_or, Nat.mul_comm x, Nat.mul_comm y, Nat.mul_comm (x ||| y), Nat.testBit_two_pow_mul_add (i := 8) x hp, Nat.testBit_two_pow_mul_add (i := 8) y hq, Nat.testBit_two_pow_mul_add (i := 8) (x ||| y) hr, Nat.testBit_or, Nat.testBit_or]
  split <;> rfl
theorem and_cat (x y p q : Nat) (hp : p < 256) (hq : q < 256) : (x * 256 + p) &&& (y * 256 + q) = (x &&& y) * 256 + (p &&& q) := by
  have hr : p &&& q < 256 := Nat.and_lt_two_pow (n := 8) _ hq
  apply Nat.eq_of_testBit_eq
  intro i
  rw [Nat.testBit_and, Nat.mul_comm x, Nat.mul_comm y, Nat.mul_comm (x &&& y), Nat.testBit_two_pow_mul_add (i := 8) x hp, Nat.testBit_two_pow_mul_add (i := 8) y hq, Nat.testBit_two_pow_mul_add (i := 8) (x &&& y) hr, Nat.testBit_and, Nat.testBit_and]
  split <;> rfl
section
variable {a b c d e f g h : Nat} (ha : a < 256) (hb : b < 256) (hc : c < 256) (hd : d < 256) (he : e < 256) (hf : f < 256) (hg : g < 256) (hh : h < 256)
include hb hc hd hf hg hh
theorem w4_xor : w4 a b c d ^^^ w4 e f g h = w4 (a ^^^ e) (b ^^^ f) (c ^^^ g) (d ^^^ h) := by
  unfold w4
  rw [xor_cat _ _ _ _ hd hh, xor_cat _ _ _ _ hc hg, xor_cat _ _ _ _ hb hf]
theorem w4_or : w4 a b c d ||| w4 e f g h = w4 (a ||| e) (b ||| f) (c ||| g) (d ||| h) := by
  unfold w4
  rw [or_cat _ _ _ _ hd hh, or_cat _ _ _ _ hc hg, or_cat _ _ _ _ hb hf]
theorem w4_and : w4 a b c d &&& w4 e f g h = w4 (a &&& e) (b &&& f) (c &&& g) (d &&& h) := by
  unfold w4
  rw [and_cat _ _ _ _ hd hh, and_cat _ _ _ _ hc hg, and_cat _ _ _ _ hb hf]
end
theorem ofI32 (x : Nat) (h : x < 4294967296) : (BitVec.ofInt 32 (x : Int)).toNat = x := by simp; omega
theorem bits_xor32 (x y : Nat) (hx : x < 4294967296) (hy : y < 4294967296) : bits .xor .u32 (x : Int) (y : Int) = ((x ^^^ y : Nat) : Int) := by
  show IntKind.u32.wrap (((BitVec.ofInt 32 (x : Int)) ^^^ (BitVec.ofInt 32 (y : Int))).toNat : Int) = _
  have hlt := ((BitVec.ofInt 32 (x : Int)) ^^^ (BitVec.ofInt 32 (y : Int))).isLt
  rw [IntKind.wrap_u32, BitVec.toNat_xor, ofI32 x hx, ofI32 y hy]
  rw [BitVec.toNat_xor, ofI32 x hx, ofI32 y hy] at hlt
  omega
theorem bits_or32 (x y : Nat) (hx : x < 4294967296) (hy : y < 4294967296) : bits .or .u32 (x : Int) (y : Int) = ((x ||| y : Nat) : Int) := by
  show IntKind.u32.wrap (((BitVec.ofInt 32 (x : Int)) ||| (BitVec.ofInt 32 (y : Int))).toNat : Int) = _
  have hlt := ((BitVec.ofInt 32 (x : Int)) ||| (BitVec.ofInt 32 (y : Int))).isLt
  rw [IntKind.wrap_u32, BitVec.toNat_or, ofI32 x hx, ofI32 y hy]
  rw [BitVec.toNat_or, ofI32 x hx, ofI32 y hy] at hlt
  omega
theorem bits_and32 (x y : Nat) (hx : x < 4294967296) (hy : y < 4294967296) : bits .and .u32 (x : Int) (y : Int) = ((x &&& y : Nat) : Int) := by
  show IntKind.u32.wrap (((BitVec.ofInt 32 (x : Int)) &&& (BitVec.ofInt 32 (y : Int))).toNat : Int) = _
  have hlt := ((BitVec.ofInt 32 (x : Int)) &&& (BitVec.ofInt 32 (y : Int))).isLt
  rw [IntKind.wrap_u32, BitVec.toNat_and, ofI32 x hx, ofI32 y hy]
  rw [BitVec.toNat_and, ofI32 x hx, ofI32 y hy] at hlt
  omega
theorem and255 {x : Nat} (h : x < 256) : x &&& 255 = x := Nat.and_two_pow_sub_one_of_lt_two_pow (n := 8) h
/-- Two of a word's bytes laid together. -/
theorem w4_or0 {a b c d : Nat} (ha : a < 256) (hb : b < 256) (hc : c < 256) (hd : d < 256) : w4 a 0 0 0 ||| w4 0 b 0 0 = w4 a b 0 0 ∧ w4 a b 0 0 ||| w4 0 0 c 0 = w4 a b c 0 ∧ w4 a b c 0 ||| w4 0 0 0 d = w4 a b c d := by
  refine ⟨?_, ?_, ?_⟩
  · rw [w4_or (by decide) (by decide) (by decide) hb (by decide) (by decide)]; simp
  · rw [w4_or hb (by decide) (by decide) (by decide) hc (by decide)]; simp
  · rw [w4_or hb hc (by decide) (by decide) (by decide) hd]; simp
theorem w4_masks {a b c d : Nat} (ha : a < 256) (hb : b < 256) (hc : c < 256) (hd : d < 256) : w4 a b c d &&& 4278190080 = w4 a 0 0 0 ∧ w4 a b c d &&& 16711680 = w4 0 b 0 0 ∧ w4 a b c d &&& 65280 = w4 0 0 c 0 ∧ w4 a b c d &&& 255 = w4 0 0 0 d := by
  refine ⟨?_, ?_, ?_, ?_⟩
  · rw [show 4278190080 = w4 255 0 0 0 from rfl, w4_and hb hc hd (by decide) (by decide) (by decide), and255 ha]; simp
  · rw [show 16711680 = w4 0 255 0 0 from rfl, w4_and hb hc hd (by decide) (by decide) (by decide), and255 hb]; simp
  · rw [show 65280 = w4 0 0 255 0 from rfl, w4_and hb hc hd (by decide) (by decide) (by decide), and255 hc]; simp
  · rw [show 255 = w4 0 0 0 255 from rfl, w4_and hb hc hd (by decide) (by decide) (by decide), and255 hd]; simp
theorem w4_parts {a b c d : Nat} (ha : a < 256) (hb : b < 256) (hc : c < 256) (hd : d < 256) : w4 a b c d / 16777216 = a ∧ w4 a b c d / 65536 % 256 = b ∧ w4 a b c d / 256 % 256 = c ∧ w4 a b c d % 256 = d := by
  unfold w4
  omega
theorem w4_ext {a b c d e f g h : Nat} (h1 : a = e) (h2 : b = f) (h3 : c = g) (h4 : d = h) : w4 a b c d = w4 e f g h := by rw [h1, h2, h3, h4]
/-- Twice a byte: linear. -/
theorem xt_parts (a : Nat) (h : a < 256) : (a &&& 127) * 2 ^^^ (a / 128 * 27) = xtN a := by
  have g : ∀ a : Fin 256, (a.val &&& 127) * 2 ^^^ (a.val / 128 * 27) = xtN a.val := by decide +kernel
  exact g ⟨a, h⟩
theorem xt_split (a : Nat) (h : a < 256) : (a ^^^ (a &&& 128)) * 2 = (a &&& 127) * 2 ∧ (a &&& 128) / 128 = a / 128 ∧ (a &&& 128) % 128 = 0 ∧ (a &&& 128) < 256 ∧ (a ^^^ (a &&& 128)) < 128 ∧ (a &&& 127) < 128 := by
  have g : ∀ a : Fin 256, (a.val ^^^ (a.val &&& 128)) * 2 = (a.val &&& 127) * 2 ∧ (a.val &&& 128) / 128 = a.val / 128 ∧ (a.val &&& 128) % 128 = 0 ∧ (a.val &&& 128) < 256 ∧ (a.val ^^^ (a.val &&& 128)) < 128 ∧ (a.val &&& 127) < 128 := by decide +kernel
  exact g ⟨a, h⟩
theorem xt_lin (a b : Nat) (ha : a < 256) (hb : b < 256) : xtN (a ^^^ b) = xtN a ^^^ xtN b := by
  have d : (a ^^^ b) / 128 = (a / 128) ^^^ (b / 128) := Nat.xor_div_two_pow (n := 7)
  have m : (a ^^^ b) &&& 127 = (a &&& 127) ^^^ (b &&& 127) := by rw [Nat.and_xor_distrib_right]
  rw [← xt_parts _ (xor_lt8 ha hb), ← xt_parts a ha, ← xt_parts b hb, d, m]
  have t : ((a &&& 127) ^^^ (b &&& 127)) * 2 = (a &&& 127) * 2 ^^^ (b &&& 127) * 2 := by
    have h := Nat.shiftLeft_xor_distrib (a := a &&& 127) (b := b &&& 127) (i := 1)
    simpa [Nat.shiftLeft_eq] using h
  have u : ((a / 128) ^^^ (b / 128)) * 27 = (a / 128) * 27 ^^^ (b / 128) * 27 := by
    rcases (show a / 128 = 0 ∨ a / 128 = 1 by omega) with h1 | h1 <;> rcases (show b / 128 = 0 ∨ b / 128 = 1 by omega) with h2 | h2 <;> rw [h1, h2] <;> rfl
  rw [t, u]
  generalize (a &&& 127) * 2 = p
  generalize (b &&& 127) * 2 = q
  generalize a / 128 * 27 = r
  generalize b / 128 * 27 = s
  ac_rfl
theorem gfm_two (a : Nat) (h : a < 256) : gfm a 2 = xtN a := by
  have g : ∀ a : Fin 256, gfm a.val 2 = xtN a.val := by decide +kernel
  exact g ⟨a, h⟩
theorem gfm_three (a : Nat) (h : a < 256) : gfm a 3 = a ^^^ xtN a := by
  have g : ∀ a : Fin 256, gfm a.val 3 = a.val ^^^ xtN a.val := by decide +kernel
  exact g ⟨a, h⟩
theorem dbl_one (x : Nat) (h : x < 256) : ((x * 2 % 256 : Nat) ^^^ (x / 128 * 27 % 256 : Nat)) = xtN x := by
  have g : ∀ x : Fin 256, ((x.val * 2 % 256 : Nat) ^^^ (x.val / 128 * 27 % 256 : Nat)) = xtN x.val := by decide +kernel
  exact g ⟨x, h⟩
end Go.Proofs.Ytiapkfeamochfaa

/- The program's AES: the box. -/
namespace Go.Proofs.Ytiapkfeamochfaa
open Go.RowKit Go.Deep
set_option linter.unusedSimpArgs false
set_option linter.unusedVariables false

theorem wpList_index_c {P : Program} {ops : Array Oper} {rest : List Oper} {o : Oper} {a : Act} {w : World} {Q : Exit → Act → World → Prop} (hgd : o.guard = none) (ty elem : TypeId) (x y : Operand) (ho : o.op = .index ty x y) (n : Nat) (hu : P.underlying ty = some (.array n elem)) (d : TypeDesc) (hd : P.underlying elem = some d)
    (hagg : (match d with | .struct _ | .array _ _ => true | _ => false) = false) (hi : (P.info? elem).map (fun i => i.size) = some 1) {k kk : IntKind} {f : Nat → Nat} {j z : Nat} (hx : a.eval x = .agg (arrOf n (cF kk f))) (hy : a.eval y = .int k (j : Int)) (hj : j < n) (hz : f j = z)
    (h : wpList P ops Q rest (a.put o.dst (.int kk (z : Int))) w) : wpList P ops Q (o :: rest) a w := by
  subst hz
  exact wpList_index_arr hgd ty elem x y ho n hu d hd hagg hi hx hy hj h
set_option maxHeartbeats 4000000 in
set_option maxRecDepth 20000 in
theorem dbl_any (x : Nat) (w : World) (hx : x < 256) : Calls Try.prog 34 #[.int .u8 (x : Int)] w fun e w' => e = .returned (.int .u8 ((xtN x : Nat) : Int)) ∧ w' = w := by
  obtain ⟨s, hs⟩ := nat_var (x * 2 % 256)
  obtain ⟨t, ht⟩ := nat_var (x / 128)
  obtain ⟨u, hu⟩ := nat_var (t * 27 % 256)
  obtain ⟨r, hr⟩ := nat_var (xtN x)
  rw [← hr]
  have e1 : IntKind.u8.wrap ((x : Int) * 2) = (s : Int) := by rw [IntKind.wrap_u8]; omega
  have e2 : (x : Int) / 128 = (t : Int) := by omega
  have e3 : IntKind.u8.wrap ((t : Int) * 27) = (u : Int) := by rw [IntKind.wrap_u8]; omega
  have e4 : bits .xor .u8 (s : Int) (u : Int) = (r : Int) := by
    rw [bits_xorN s u (by omega) (by omega), hr, ← dbl_one x hx, hs, hu, ht]
  clear hs ht hu hr hx
  go_enter Try.func34, Try.ntmps34
  go_wp2
  go_ret
  exact ⟨rfl, rfl⟩
set_option maxHeartbeats 4000000 in
set_option maxRecDepth 20000 in
theorem rot8_1 (v : Nat) (w : World) (hv : v < 256) : Calls Try.prog 45 #[.int .u8 (v : Int), .int .i64 1] w fun e w' => e = .returned (.int .u8 ((rb v 1 : Nat) : Int)) ∧ w' = w := by
  obtain ⟨s, hs⟩ := nat_var (v * 2 ^ 1 % 256)
  obtain ⟨t, ht⟩ := nat_var (v / 2 ^ (8 - 1))
  obtain ⟨o, ho⟩ := nat_var (rb v 1)
  have e1 := bits_orN s t (by omega) (by rw [ht]; exact Nat.lt_of_le_of_lt (Nat.div_le_self _ _) hv)
  rw [show s ||| t = o by rw [ho, hs, ht]; rfl] at e1
  rw [← ho]
  simp only [Nat.reducePow, Nat.reduceSub] at hs ht
  have s1 : IntKind.u8.wrap ((v : Int) * 2) = (s : Int) := by rw [IntKind.wrap_u8]; omega
  have s2 : (v : Int) / 128 = (t : Int) := by omega
  have c1 : bits .and .u64 1 7 = 1 := by decide
  clear hs ht ho hv
  go_enter Try.func45, Try.ntmps45
  go_wp2
  go_ret
  exact ⟨rfl, rfl⟩
set_option maxHeartbeats 4000000 in
set_option maxRecDepth 20000 in
theorem rot8_2 (v : Nat) (w : World) (hv : v < 256) : Calls Try.prog 45 #[.int .u8 (v : Int), .int .i64 2] w fun e w' => e = .returned (.int .u8 ((rb v 2 : Nat) : Int)) ∧ w' = w := by
  obtain ⟨s, hs⟩ := nat_var (v * 2 ^ 2 % 256)
  obtain ⟨t, ht⟩ := nat_var (v / 2 ^ (8 - 2))
  obtain ⟨o, ho⟩ := nat_var (rb v 2)
  have e1 := bits_orN s t (by omega) (by rw [ht]; exact Nat.lt_of_le_of_lt (Nat.div_le_self _ _) hv)
  rw [show s ||| t = o by rw [ho, hs, ht]; rfl] at e1
  rw [← ho]
  simp only [Nat.reducePow, Nat.reduceSub] at hs ht
  have s1 : IntKind.u8.wrap ((v : Int) * 4) = (s : Int) := by rw [IntKind.wrap_u8]; omega
  have s2 : (v : Int) / 64 = (t : Int) := by omega
  have c1 : bits .and .u64 2 7 = 2 := by decide
  clear hs ht ho hv
  go_enter Try.func45, Try.ntmps45
  go_wp2
  go_ret
  exact ⟨rfl, rfl⟩
set_option maxHeartbeats 4000000 in
set_option maxRecDepth 20000 in
theorem rot8_3 (v : Nat) (w : World) (hv : v < 256) : Calls Try.prog 45 #[.int .u8 (v : Int), .int .i64 3] w fun e w' => e = .returned (.int .u8 ((rb v 3 : Nat) : Int)) ∧ w' = w := by
  obtain ⟨s, hs⟩ := nat_var (v * 2 ^ 3 % 256)
  obtain ⟨t, ht⟩ := nat_var (v / 2 ^ (8 - 3))
  obtain ⟨o, ho⟩ := nat_var (rb v 3)
  have e1 := bits_orN s t (by omega) (by rw [ht]; exact Nat.lt_of_le_of_lt (Nat.div_le_self _ _) hv)
  rw [show s ||| t = o by rw [ho, hs, ht]; rfl] at e1
  rw [← ho]
  simp only [Nat.reducePow, Nat.reduceSub] at hs ht
  have s1 : IntKind.u8.wrap ((v : Int) * 8) = (s : Int) := by rw [IntKind.wrap_u8]; omega
  have s2 : (v : Int) / 32 = (t : Int) := by omega
  have c1 : bits .and .u64 3 7 = 3 := by decide
  clear hs ht ho hv
  go_enter Try.func45, Try.ntmps45
  go_wp2
  go_ret
  exact ⟨rfl, rfl⟩
set_option maxHeartbeats 4000000 in
set_option maxRecDepth 20000 in
theorem rot8_4 (v : Nat) (w : World) (hv : v < 256) : Calls Try.prog 45 #[.int .u8 (v : Int), .int .i64 4] w fun e w' => e = .returned (.int .u8 ((rb v 4 : Nat) : Int)) ∧ w' = w := by
  obtain ⟨s, hs⟩ := nat_var (v * 2 ^ 4 % 256)
  obtain ⟨t, ht⟩ := nat_var (v / 2 ^ (8 - 4))
  obtain ⟨o, ho⟩ := nat_var (rb v 4)
  have e1 := bits_orN s t (by omega) (by rw [ht]; exact Nat.lt_of_le_of_lt (Nat.div_le_self _ _) hv)
  rw [show s ||| t = o by rw [ho, hs, ht]; rfl] at e1
  rw [← ho]
  simp only [Nat.reducePow, Nat.reduceSub] at hs ht
  have s1 : IntKind.u8.wrap ((v : Int) * 16) = (s : Int) := by rw [IntKind.wrap_u8]; omega
  have s2 : (v : Int) / 16 = (t : Int) := by omega
  have c1 : bits .and .u64 4 7 = 4 := by decide
  clear hs ht ho hv
  go_enter Try.func45, Try.ntmps45
  go_wp2
  go_ret
  exact ⟨rfl, rfl⟩
theorem rot8_any (v k : Nat) (w : World) (hv : v < 256) (h0 : 0 < k) (h1 : k < 5) : Calls Try.prog 45 #[.int .u8 (v : Int), .int .i64 (k : Int)] w fun e w' => e = .returned (.int .u8 ((rb v k : Nat) : Int)) ∧ w' = w := by
  rcases (show k = 1 ∨ k = 2 ∨ k = 3 ∨ k = 4 by omega) with rfl | rfl | rfl | rfl
  · exact rot8_1 v w hv
  · exact rot8_2 v w hv
  · exact rot8_3 v w hv
  · exact rot8_4 v w hv
theorem rb_zero (v : Nat) (hv : v < 256) : rb v 0 = v := by
  have g : ∀ v : Fin 256, rb v.val 0 = v.val := by decide +kernel
  exact g ⟨v, hv⟩
set_option maxHeartbeats 4000000 in
set_option maxRecDepth 20000 in
theorem spread_any (x : Nat) (w : World) (hx : x < 256) : Calls Try.prog 41 #[.int .u8 (x : Int)] w fun e w' => e = .returned (.int .u8 ((xr x 5 : Nat) : Int)) ∧ w' = w := by
  obtain ⟨RES, hRES⟩ : ∃ R, R = xr x 5 := ⟨_, rfl⟩
  rw [← hRES]
  have HRES := Lib.hid hRES
  have HX := Lib.hid hx
  obtain ⟨y, hy⟩ := nat_var (xr x 1)
  have e0 : bits .xor .u8 (x : Int) 99 = (y : Int) := by
    refine (bits_xorN x 99 hx (by decide)).trans ?_
    rw [hy]
    show _ = ((99 ^^^ rb x 0 : Nat) : Int)
    rw [rb_zero x hx, Nat.xor_comm]
  have HY := Lib.hid hy
  clear hRES hx hy
  go_enter Try.func41, Try.ntmps41
  go_wp2
  go_loopw [3, 4] (fun ov kv wr => ∃ k : Nat, 0 < k ∧ k ≤ 5 ∧ kv = .int .i64 (k : Int) ∧ ov = .int .u8 ((xr x k : Nat) : Int) ∧ wr = w) (fun _ kv _ => 5 - (intOf kv).toNat)
  case atStart => exact ⟨1, by decide, by decide, rfl, by rw [HY.out], rfl⟩
  case round =>
    obtain ⟨k, hk0, hk, rfl, rfl, rfl⟩ := hrel
    by_cases hlt : k < 5
    · have hkI : (k : Int) ≤ 4 := by omega
      have HK0 := Lib.hid hk0
      have HK := Lib.hid hlt
      obtain ⟨r, hr⟩ := nat_var (xr x k)
      obtain ⟨o, ho⟩ := nat_var (rb x k)
      obtain ⟨r2, hr2⟩ := nat_var (xr x (k + 1))
      have e2 : bits .xor .u8 (r : Int) (o : Int) = (r2 : Int) := by
        rw [bits_xorN r o (by rw [hr]; exact xr_lt _ HX.out k) (by rw [ho]; exact rb_lt _ _ HX.out), hr2, hr, ho]
        rfl
      have HO := Lib.hid fun w => rot8_any x k w HX.out hk0 hlt
      rw [← ho] at HO
      have HR2 := Lib.hid hr2
      obtain ⟨k1, hk1⟩ := nat_var (k + 1)
      have hw1 : IntKind.i64.wrap ((k : Int) + 1) = (k1 : Int) := by rw [IntWalk.i64_in _ (by omega)]; omega
      have HK1 := Lib.hid hk1
      rw [← hr]
      clear hk0 hk hlt hr ho hr2 hk1
      go_wp2_with (first
        | (have hgo := HO; clear hgo
           go_at_call 45
           refine (HO.out _).mono ?_
           rintro e w7 ⟨rfl, rfl⟩
           clear HO))
      go_roundw
      case rel => exact ⟨k + 1, by omega, HK.out, by rw [HK1.out], by rw [HR2.out], (by trivial)⟩
      case measure => (have := HK.out; have := HK1.out; simp [intOf]; try omega)
    · obtain rfl : k = 5 := by omega
      clear hk hk0 hlt
      rw [← HRES.out]
      go_wp2
      go_ret
      exact ⟨rfl, rfl⟩
theorem p3w_next (k : Nat) : p3w (k + 1) = p3w k ^^^ xtN (p3w k) := gfm_three _ (p3w_lt k)
set_option maxHeartbeats 4000000 in
set_option maxRecDepth 20000 in
theorem pow3_any (w : World) : Calls Try.prog 40 #[] w fun e w' => e = .returned (.agg (arrOf 256 (cF .u8 p3w))) ∧ Below w.heap.size w w' := by
  have Bw0 := Below.refl w.heap.size w
  have HGS : Hid (∀ wq : World, Below w.heap.size w wq → w.heap.size ≤ wq.heap.size) := Lib.hid fun wq h => h.size
  go_enter Try.func40, Try.ntmps40
  go_wp2_with (first
    | (have hgo := Bw0; clear hgo
       refine wpList_alloc_row rfl 48 rfl 256 (cF .u8 fun _ => 0) zeroB256 ?_
       intro b_t0 w1 lk r_t0 kk
       have l_t0 := zrl HGS Bw0 lk
       have Bw1 := zbt HGS Bw0 kk
       clear Bw0 kk lk)
    | (have hgo := Bw1; clear hgo
       refine wpList_alloc_row rfl 48 rfl 256 (cF .u8 fun _ => 0) zeroB256 ?_
       intro b_t1 w2 lk r_t1 kk
       have n_t0_t1 := zrn r_t0 lk
       have l_t1 := zrl HGS Bw1 lk
       replace r_t0 := zrb r_t0 kk
       have Bw2 := zbt HGS Bw1 kk
       clear Bw1 kk lk))
  go_loopw [2, 4] (fun xv iv wr => ∃ k : Nat, k ≤ 256 ∧ iv = .int .i64 (k : Int) ∧ xv = .int .u8 ((p3w k : Nat) : Int) ∧ wr.rowIs b_t0 48 256 (cF .u8 fun _ => 0) ∧ wr.rowIs b_t1 48 256 (cF .u8 (pwF k)) ∧ Below w.heap.size w wr) (fun _ iv _ => 256 - (intOf iv).toNat)
  case atStart => exact ⟨0, by decide, rfl, rfl, r_t0, r_t1.congr (fun j _ => by unfold cF pwF; rw [if_neg (Nat.not_lt_zero j)]), Bw2⟩
  case round =>
    clear r_t0 r_t1 Bw2
    obtain ⟨k, hk, rfl, rfl, r_t0, r_t1, Bw0⟩ := hrel
    by_cases hlt : k < 256
    · have hkI : 0 ≤ (k : Int) ∧ (k : Int) < 256 := by omega
      have HK := Lib.hid hlt
      obtain ⟨x, hx⟩ := nat_var (p3w k)
      have hxl : x < 256 := by rw [hx]; exact p3w_lt k
      rw [← hx]
      obtain ⟨y, hy⟩ := nat_var (xtN x)
      obtain ⟨x3, hx3⟩ := nat_var (p3w (k + 1))
      have HG := Lib.hid fun w => dbl_any x w hxl
      rw [← hy] at HG
      have e2 : bits .xor .u8 (x : Int) (y : Int) = (x3 : Int) := by
        rw [bits_xorN x y hxl (by rw [hy]; exact xtN_lt _), hx3, p3w_next, ← hx, hy]
      have HS1 : Hid (∀ j, j < 256 → pwF (k + 1) j = if j = k then x else pwF k j) := Lib.hid fun j _ => by
        unfold pwF
        by_cases e : j = k
        · rw [if_pos (by omega), if_pos e, hx, e]
        · rw [if_neg e]
          by_cases h2 : j < k
          · rw [if_pos h2, if_pos (by omega)]
          · rw [if_neg h2, if_neg (by omega)]
      have HX3 := Lib.hid hx3
      clear hk hlt hxl hx hx3 hy
      go_wp2_with (first
        | (have hgo := HS1; clear hgo
           refine wpList_store_c rfl 5 (.tmp 9) (.tmp 8) rfl (pwF (k + 1)) r_t1 HK.out rfl rfl (by kernel_rfl) HS1.out ?_
           intro w5 q5 g5
           replace r_t0 := gb_rowIs r_t0 g5 n_t0_t1
           have Bw1 := zbg HGS Bw0 g5 l_t1
           clear Bw0 g5 r_t1 HS1)
        | (have hgo := HG; clear hgo
           go_at_call 34
           refine (HG.out _).mono ?_
           rintro e w7 ⟨rfl, rfl⟩
           clear HG))
      go_roundw
      case rel => exact ⟨k + 1, HK.out, by have := HK.out; go_num, by rw [HX3.out], r_t0, q5, Bw1⟩
      case measure => (have := HK.out; simp [intOf]; try omega)
    · obtain rfl : k = 256 := by omega
      replace r_t1 := r_t1.congr (g := cF .u8 p3w) (fun j hj => by unfold cF pwF; rw [if_pos hj])
      clear hk hlt
      go_wp2_with (first
        | (refine wpList_load_as rfl 48 (.tmp 1) rfl 256 (cF .u8 p3w) arrB256 r_t1 rfl (by omega) (fun i hi => by rw [Nat.zero_add]) ?_)
        | (have hgo := Bw0; clear hgo
           refine wpList_store_as rfl 48 (.tmp 0) (.tmp 15) rfl 256 (cF .u8 p3w) arrB256 r_t0 rfl rfl (by omega) (fun _ _ => rfl) (fun i hi => putN_whole hi) ?_
           intro w9 q9 g9
           have Bw9 := zbg HGS Bw0 g9 l_t0
           clear Bw0 g9 r_t0))
      exact ret_cell_as _ rfl arrB256 q9 rfl (by omega) (fun _ _ => rfl) rfl ⟨rfl, Bw9⟩
/-- The box behind k powers. -/
def obF : Nat → Nat → Nat
  | 0, j => if j = 0 then 99 else 0
  | k + 1, j => if j = p3w k then xr (p3w (255 - k)) 5 else obF k j
end Go.Proofs.Ytiapkfeamochfaa

/- The program's AES: the box is the document's. -/
namespace Go.Proofs.Ytiapkfeamochfaa
open Go.RowKit Go.Deep
set_option linter.unusedSimpArgs false
set_option linter.unusedVariables false

def tabP (i : Nat) : Nat := 247704880781559356684414323119999879637317647180040216102211349143305888774923398537951341803642731683984666991564019150676315804531779449815159115664189418245566988781254625896260912026622159780553349108386186142268315007856282091988200171439146255715840100601167723801170608095743514940052926055042184507632911811387723359914440662207451538163404716729158929845121383729837235901114109841630616474463024741216292666125260571984924724184385554713500007113061044175325657975136216706165622836048350080632971744177780693200859426168487707538171671676645432511882666690861394815764438377708986394032816479809277592321 / 2 ^ (8 * i) % 256
def tabL (i : Nat) : Nat := 939374623831894136699086600277250597547650664638770418422125146541797353646788332867483593573384618611044815625336497665827114626705134492515730415652478061620339993830966980270842846318821775850471098591710629241171812800746666233448222972174585295916389942636813666312872914849454985560152530477328703759683306625234997237483834721220409437442253146756845415190424543171129629468776480674528486868811725071010351012234056630775688111116293610821126543142160426617079940511630006820862697466582575257349116925728488930366609138264019883664906661504235885380294353134295748489096855100647154935187045898006656778240 / 2 ^ (8 * i) % 256
def tabS (i : Nat) : Nat := 2869618975290639062594974519597816386035077209210385677284518162336985023502962151465775969507961862820568736543004676439868535775640188584098917533413284844376797297285941524888791401501466624530423689326528054213168201056672989590893583853414110162539122864583953358348775951166211353578440977400428507475679327181038682772945817200201960445064847785221508011893952350688324234443749897213621340677040612747745615276448919507935121141307752692835344166708617454322778699219895865633266409040561742768581056182730443599545881830075941537620590442514083341749674612746994879540562701631131184186066652929592955206755 / 2 ^ (8 * i) % 256
def tabI (i : Nat) : Nat := 15785769749828884342349381641981096363179738000380205650940338083111619982568718420166261191398703005748170232611805704157196303061330872280026969925224128193193768962594508714770967646139604422718174787315048227180018877623049221087186576642191304514338137614235628241783007805847129270530950856841486400764657112140097236091222567730363620332611309375046737430203438830593833719428588466121688739068564421474273450162064709239629809347626728710072303178617319436726577534667237755444692000788692193415136619289353224918429728194544458916874716857284226411602766869706570927007876872095880586785662942963508062062930 / 2 ^ (8 * i) % 256
theorem tabP_step : ∀ i : Fin 255, gfm (tabP i.val) 3 = tabP (i.val + 1) := by decide +kernel
theorem p3w_tab : ∀ i, i ≤ 255 → p3w i = tabP i
  | 0, _ => by decide +kernel
  | i + 1, h => by
    show gfm (p3w i) 3 = _
    rw [p3w_tab i (by omega)]
    exact tabP_step ⟨i, by omega⟩
theorem tab_log : ∀ j : Fin 256, j.val = 0 ∨ (tabL j.val < 255 ∧ tabP (tabL j.val) = j.val) := by decide +kernel
theorem tab_exp : ∀ i : Fin 255, tabL (tabP i.val) = i.val := by decide +kernel
theorem tabP_ne : ∀ i : Fin 256, tabP i.val ≠ 0 := by decide +kernel
theorem p3w_log (j : Nat) (h : j < 256) (h0 : j ≠ 0) : tabL j < 255 ∧ p3w (tabL j) = j := by
  rcases tab_log ⟨j, h⟩ with h1 | ⟨h1, h2⟩
  · exact absurd h1 h0
  · exact ⟨h1, (p3w_tab _ (Nat.le_of_lt h1)).trans h2⟩
theorem log_p3w (k : Nat) (h : k < 255) : tabL (p3w k) = k := by rw [p3w_tab k (Nat.le_of_lt h)]; exact tab_exp ⟨k, h⟩
theorem p3w_ne (k : Nat) (h : k ≤ 255) : p3w k ≠ 0 := by rw [p3w_tab k h]; exact tabP_ne ⟨k, by omega⟩
theorem atF_log (j : Nat) (hj : j < 256) (h0 : j ≠ 0) : ∀ k, k ≤ 255 → tabL j < k → atF k j = tabL j
  | 0, _, h => absurd h (Nat.not_lt_zero _)
  | k + 1, hk, h => by
    unfold atF
    by_cases e : j = p3w k
    · rw [if_pos e, e, log_p3w k (by omega)]
    · rw [if_neg e]
      refine atF_log j hj h0 k (by omega) ?_
      rcases Nat.lt_or_ge (tabL j) k with h1 | h1
      · exact h1
      · have h2 : tabL j = k := by omega
        exact absurd ((p3w_log j hj h0).2.symm.trans (by rw [h2])) e
theorem obF_log (j : Nat) (hj : j < 256) (h0 : j ≠ 0) : ∀ k, k ≤ 255 → tabL j < k → obF k j = xr (p3w (255 - tabL j)) 5
  | 0, _, h => absurd h (Nat.not_lt_zero _)
  | k + 1, hk, h => by
    unfold obF
    by_cases e : j = p3w k
    · rw [if_pos e, e, log_p3w k (by omega)]
    · rw [if_neg e]
      refine obF_log j hj h0 k (by omega) ?_
      rcases Nat.lt_or_ge (tabL j) k with h1 | h1
      · exact h1
      · have h2 : tabL j = k := by omega
        exact absurd ((p3w_log j hj h0).2.symm.trans (by rw [h2])) e
theorem obF_zero : ∀ k, k ≤ 256 → obF k 0 = 99
  | 0, _ => rfl
  | k + 1, h => by
    unfold obF
    rw [if_neg (fun e => p3w_ne k (by omega) e.symm)]
    exact obF_zero k (by omega)
theorem p3w_255 : p3w 255 = 1 := by rw [p3w_tab 255 (by decide)]; decide +kernel
theorem log_one : tabL 1 = 0 := by decide +kernel
theorem obF_box (j : Nat) (hj : j < 256) : obF 256 j = boxN j := by
  by_cases h0 : j = 0
  · subst h0
    rw [obF_zero 256 (by decide)]
    show _ = xr (invB 0) 5
    rw [show invB 0 = 0 from rfl]
    decide +kernel
  · show (if j = p3w 255 then xr (p3w (255 - 255)) 5 else obF 255 j) = xr (invB j) 5
    have hl := p3w_log j hj h0
    have hi : invB j = p3w ((255 - tabL j) % 255) := by
      unfold invB
      rw [if_pos (by omega), atF_log j hj h0 255 (by decide) hl.1]
    rw [hi]
    by_cases h1 : j = 1
    · subst h1
      rw [if_pos p3w_255.symm, log_one]
    · rw [if_neg (by rw [p3w_255]; exact h1), obF_log j hj h0 255 (by decide) hl.1]
      have hne : tabL j ≠ 0 := fun e => h1 (by rw [← hl.2, e]; rfl)
      rw [Nat.mod_eq_of_lt (by omega)]
theorem box_tabs : ∀ j : Fin 256, (if j.val = 0 then xr 0 5 else xr (tabP ((255 - tabL j.val) % 255)) 5) = tabS j.val := by decide +kernel
theorem boxN_tab (j : Nat) (hj : j < 256) : boxN j = tabS j := by
  rw [← box_tabs ⟨j, hj⟩]
  show xr (invB j) 5 = if j = 0 then _ else _
  by_cases h0 : j = 0
  · subst h0
    rw [if_pos rfl]
    rfl
  · rw [if_neg h0]
    have hl := p3w_log j hj h0
    unfold invB
    rw [if_pos (by omega), atF_log j hj h0 255 (by decide) hl.1, p3w_tab _ (Nat.le_of_lt (Nat.mod_lt _ (by decide)))]
theorem tab_inv : ∀ j : Fin 256, tabI (tabS j.val) = j.val ∧ tabS j.val ≠ j.val ∧ tabS j.val ≠ 255 - j.val := by decide +kernel
/-- The box is one to one, and no number stays, nor is turned to its opposite. -/
theorem box_inj (a b : Nat) (ha : a < 256) (hb : b < 256) (h : boxN a = boxN b) : a = b := by
  rw [boxN_tab a ha, boxN_tab b hb] at h
  have i1 : tabI (tabS a) = a := (tab_inv ⟨a, ha⟩).1
  have i2 : tabI (tabS b) = b := (tab_inv ⟨b, hb⟩).1
  rw [h] at i1
  exact i1.symm.trans i2
theorem box_ne (a : Nat) (ha : a < 256) : boxN a ≠ a ∧ boxN a ≠ 255 - a := by
  rw [boxN_tab a ha]
  exact (tab_inv ⟨a, ha⟩).2
theorem box_0 : boxN 0 = 99 := by rw [boxN_tab 0 (by decide)]; decide +kernel
set_option maxHeartbeats 4000000 in
set_option maxRecDepth 20000 in
theorem pboxes_any (w : World) : Calls Try.prog 27 #[] w fun e w' => e = .returned (.agg (arrOf 256 (cF .u8 boxN))) ∧ Below w.heap.size w w' := by
  have Bw0 := Below.refl w.heap.size w
  have HGS : Hid (∀ wq : World, Below w.heap.size w wq → w.heap.size ≤ wq.heap.size) := Lib.hid fun wq h => h.size
  have HSP := Lib.hid fun w => spread_any 0 w (by decide)
  rw [show xr 0 5 = 99 by decide +kernel] at HSP
  have HS0 : Hid (∀ j, j < 256 → obF 0 j = if j = 0 then 99 else (fun _ => 0) j) := Lib.hid fun j _ => rfl
  go_enter Try.func27, Try.ntmps27
  go_wp2_with (first
    | (have hgo := Bw0; clear hgo
       refine wpList_alloc_row rfl 48 rfl 256 (cF .u8 fun _ => 0) zeroB256 ?_
       intro b_t0 w1 lk r_t0 kk
       have l_t0 := zrl HGS Bw0 lk
       have Bw1 := zbt HGS Bw0 kk
       clear Bw0 kk lk)
    | (have hgo := Bw1; clear hgo
       go_at_call 40
       refine (pow3_any _).mono ?_
       rintro e w2 ⟨rfl, kk⟩
       replace r_t0 := zrb r_t0 kk
       have Bw2 := zbt HGS Bw1 kk
       clear Bw1 kk)
    | (have hgo := Bw2; clear hgo
       refine wpList_alloc_row rfl 48 rfl 256 (cF .u8 fun _ => 0) zeroB256 ?_
       intro b_t1 w3 lk r_t1 kk
       have n_t0_t1 := zrn r_t0 lk
       have l_t1 := zrl HGS Bw2 lk
       replace r_t0 := zrb r_t0 kk
       have Bw3 := zbt HGS Bw2 kk
       clear Bw2 kk lk)
    | (have hgo := Bw3; clear hgo
       refine wpList_store_as rfl 48 (.tmp 1) (.tmp 5) rfl 256 (cF .u8 p3w) arrB256 r_t1 rfl rfl (by omega) (fun _ _ => rfl) (fun i hi => putN_whole hi) ?_
       intro w4 q gk
       replace r_t0 := gb_rowIs r_t0 gk n_t0_t1
       replace r_t1 := q
       have Bw4 := zbg HGS Bw3 gk l_t1
       clear Bw3 gk q)
    | (have hgo := Bw4; clear hgo
       refine wpList_alloc_row rfl 48 rfl 256 (cF .u8 fun _ => 0) zeroB256 ?_
       intro b_t2 w5 lk r_t2 kk
       have n_t0_t2 := zrn r_t0 lk
       have n_t1_t2 := zrn r_t1 lk
       have l_t2 := zrl HGS Bw4 lk
       replace r_t0 := zrb r_t0 kk
       replace r_t1 := zrb r_t1 kk
       have Bw5 := zbt HGS Bw4 kk
       clear Bw4 kk lk)
    | (have hgo := HSP; clear hgo
       go_at_call 41
       refine (HSP.out _).mono ?_
       rintro e w6 ⟨rfl, rfl⟩
       clear HSP)
    | (have hgo := Bw5; clear hgo
       refine wpList_store_c rfl 5 (.tmp 7) (.tmp 6) rfl (obF 0) r_t2 (by decide) rfl rfl (by kernel_rfl) HS0.out ?_
       intro w7 q gk
       replace r_t0 := gb_rowIs r_t0 gk n_t0_t2
       replace r_t1 := gb_rowIs r_t1 gk n_t1_t2
       replace r_t2 := q
       have Bw6 := zbg HGS Bw5 gk l_t2
       clear Bw5 gk q)
    | (have hgo := Bw6; clear hgo
       refine wpList_load_as rfl 48 (.tmp 1) rfl 256 (cF .u8 p3w) arrB256 r_t1 rfl (by omega) (fun i hi => by rw [Nat.zero_add]) ?_
       have Bw7 := Bw6
       clear Bw6))
  go_loopw [9] (fun iv wr => ∃ k : Nat, k ≤ 256 ∧ iv = .int .i64 (k : Int) ∧ wr.rowIs b_t0 48 256 (cF .u8 fun _ => 0) ∧ wr.rowIs b_t1 48 256 (cF .u8 p3w) ∧ wr.rowIs b_t2 48 256 (cF .u8 (obF k)) ∧ Below w.heap.size w wr) (fun iv _ => 256 - (intOf iv).toNat)
  case atStart => exact ⟨0, by decide, rfl, r_t0, r_t1, r_t2, Bw7⟩
  case round =>
    clear r_t0 r_t1 r_t2 Bw7
    obtain ⟨k, hk, rfl, r_t0, r_t1, r_t2, Bw0⟩ := hrel
    by_cases hlt : k < 256
    · have hkI : 0 ≤ (k : Int) ∧ (k : Int) < 256 := by omega
      have HK := Lib.hid hlt
      obtain ⟨x, hx⟩ := nat_var (p3w k)
      have hxl : x < 256 := by rw [hx]; exact p3w_lt k
      have hxI : 0 ≤ (x : Int) ∧ (x : Int) < 256 := by omega
      obtain ⟨m, hm⟩ := nat_var (255 - k)
      have hw1 : IntKind.i64.wrap (255 - (k : Int)) = (m : Int) := by rw [IntWalk.i64_in _ (by omega)]; omega
      have hmI : 0 ≤ (m : Int) ∧ (m : Int) < 256 := by omega
      obtain ⟨y, hy⟩ := nat_var (p3w m)
      have hyl : y < 256 := by rw [hy]; exact p3w_lt m
      obtain ⟨z, hz⟩ := nat_var (xr y 5)
      have HG := Lib.hid fun w => spread_any y w hyl
      rw [← hz] at HG
      have HX : Hid (p3w k = x) := Lib.hid hx.symm
      have HY : Hid (p3w m = y) := Lib.hid hy.symm
      have HXL := Lib.hid hxl
      have HML : Hid (m < 256) := Lib.hid (by omega)
      have HS1 : Hid (∀ j, j < 256 → obF (k + 1) j = if j = x then z else obF k j) := Lib.hid fun j _ => by
        rw [hz, hy, hm, hx]
        rfl
      clear hk hlt hxl hx hm hy hyl hz
      go_wp2_with (first
        | (have hgo := HX; clear hgo
           refine wpList_index_c rfl 48 5 (.tmp 8) (.tmp 9) rfl 256 (by kernel_rfl) _ rfl rfl (by kernel_rfl) rfl rfl HK.out HX.out ?_
           clear HX)
        | (have hgo := HY; clear hgo
           refine wpList_load_c rfl 5 (.tmp 16) rfl r_t1 HML.out rfl (by kernel_rfl) HY.out ?_
           clear HY)
        | (have hgo := HG; clear hgo
           go_at_call 41
           refine (HG.out _).mono ?_
           rintro e w7 ⟨rfl, rfl⟩
           clear HG)
        | (have hgo := HS1; clear hgo
           refine wpList_store_c rfl 5 (.tmp 19) (.tmp 18) rfl (obF (k + 1)) r_t2 HXL.out rfl rfl (by kernel_rfl) HS1.out ?_
           intro w5 q5 g5
           replace r_t0 := gb_rowIs r_t0 g5 n_t0_t2
           replace r_t1 := gb_rowIs r_t1 g5 n_t1_t2
           have Bw1 := zbg HGS Bw0 g5 l_t2
           clear Bw0 g5 r_t2 HS1))
      go_roundw
      case rel => exact ⟨k + 1, HK.out, by have := HK.out; go_num, r_t0, r_t1, q5, Bw1⟩
      case measure => (have := HK.out; simp [intOf]; try omega)
    · obtain rfl : k = 256 := by omega
      replace r_t2 := r_t2.congr (g := cF .u8 boxN) (fun j hj => by unfold cF; rw [obF_box j hj])
      clear hk hlt
      go_wp2_with (first
        | (refine wpList_load_as rfl 48 (.tmp 2) rfl 256 (cF .u8 boxN) arrB256 r_t2 rfl (by omega) (fun i hi => by rw [Nat.zero_add]) ?_)
        | (have hgo := Bw0; clear hgo
           refine wpList_store_as rfl 48 (.tmp 0) (.tmp 21) rfl 256 (cF .u8 boxN) arrB256 r_t0 rfl rfl (by omega) (fun _ _ => rfl) (fun i hi => putN_whole hi) ?_
           intro w9 q9 g9
           have Bw9 := zbg HGS Bw0 g9 l_t0
           clear Bw0 g9 r_t0))
      exact ret_cell_as _ rfl arrB256 q9 rfl (by omega) (fun _ _ => rfl) rfl ⟨rfl, Bw9⟩
set_option maxHeartbeats 4000000 in
set_option maxRecDepth 20000 in
theorem pBox_any (b : Nat) (w : World) (hb : b < 256) : Calls Try.prog 12 #[.int .u8 (b : Int)] w fun e w' => e = .returned (.int .u8 ((boxN b : Nat) : Int)) ∧ Below w.heap.size w w' := by
  have Bw0 := Below.refl w.heap.size w
  have HB := Lib.hid hb
  go_enter Try.func12, Try.ntmps12
  go_wp2_with (first
    | (have hgo := Bw0; clear hgo
       go_at_call 27
       refine (pboxes_any _).mono ?_
       rintro e w2 ⟨rfl, kk⟩
       clear Bw0)
    | refine wpList_index_arr rfl 48 5 (.tmp 3) (.tmp 4) rfl 256 (by kernel_rfl) _ rfl rfl (by kernel_rfl) rfl rfl HB.out ?_)
  go_ret
  exact ⟨rfl, kk⟩
end Go.Proofs.Ytiapkfeamochfaa

/- The program's AES: words. -/
namespace Go.Proofs.Ytiapkfeamochfaa
open Go.RowKit Go.Deep
set_option linter.unusedSimpArgs false
set_option linter.unusedVariables false

set_option maxHeartbeats 4000000 in
set_option maxRecDepth 20000 in
theorem doubled_any (a b c d : Nat) (w : World) (ha : a < 256) (hb : b < 256) (hc : c < 256) (hd : d < 256) : Calls Try.prog 44 #[.int .u32 ((w4 a b c d : Nat) : Int)] w fun e w' => e = .returned (.int .u32 ((w4 (xtN a) (xtN b) (xtN c) (xtN d) : Nat) : Int)) ∧ w' = w := by
  obtain ⟨x, hx⟩ := nat_var (w4 a b c d)
  obtain ⟨p, hp⟩ := nat_var (w4 (a &&& 128) (b &&& 128) (c &&& 128) (d &&& 128))
  obtain ⟨y, hy⟩ := nat_var (w4 (a ^^^ (a &&& 128)) (b ^^^ (b &&& 128)) (c ^^^ (c &&& 128)) (d ^^^ (d &&& 128)))
  obtain ⟨z, hz⟩ := nat_var (w4 ((a &&& 127) * 2) ((b &&& 127) * 2) ((c &&& 127) * 2) ((d &&& 127) * 2))
  obtain ⟨s, hs⟩ := nat_var (w4 (a / 128) (b / 128) (c / 128) (d / 128))
  obtain ⟨t, ht⟩ := nat_var (w4 (a / 128 * 27) (b / 128 * 27) (c / 128 * 27) (d / 128 * 27))
  obtain ⟨r, hr⟩ := nat_var (w4 (xtN a) (xtN b) (xtN c) (xtN d))
  have A := xt_split a ha
  have B := xt_split b hb
  have C := xt_split c hc
  have D := xt_split d hd
  have hxl : x < 4294967296 := by rw [hx]; exact w4_lt ha hb hc hd
  have hpl : p < 4294967296 := by rw [hp]; exact w4_lt A.2.2.2.1 B.2.2.2.1 C.2.2.2.1 D.2.2.2.1
  have hzl : z < 4294967296 := by rw [hz]; exact w4_lt (by omega) (by omega) (by omega) (by omega)
  have htl : t < 4294967296 := by rw [ht]; exact w4_lt (by omega) (by omega) (by omega) (by omega)
  have e1 : bits .and .u32 (x : Int) 2155905152 = (p : Int) := by
    refine (bits_and32 x 2155905152 hxl (by decide)).trans ?_
    rw [hx, hp, show 2155905152 = w4 128 128 128 128 from rfl, w4_and hb hc hd (by decide) (by decide) (by decide)]
  have e2 : bits .xor .u32 (x : Int) (p : Int) = (y : Int) := by
    rw [bits_xor32 x p hxl hpl, hx, hp, hy, w4_xor hb hc hd B.2.2.2.1 C.2.2.2.1 D.2.2.2.1]
  have e3 : IntKind.u32.wrap ((y : Int) * 2) = (z : Int) := by
    rw [IntKind.wrap_u32, hy, hz, ← A.1, ← B.1, ← C.1, ← D.1]
    have h1 := A.2.2.2.2.1
    have h2 := B.2.2.2.2.1
    have h3 := C.2.2.2.2.1
    have h4 := D.2.2.2.2.1
    generalize a ^^^ (a &&& 128) = a1 at h1 ⊢
    generalize b ^^^ (b &&& 128) = b1 at h2 ⊢
    generalize c ^^^ (c &&& 128) = c1 at h3 ⊢
    generalize d ^^^ (d &&& 128) = d1 at h4 ⊢
    unfold w4
    omega
  have e4 : (p : Int) / 128 = (s : Int) := by
    rw [hp, hs, ← A.2.1, ← B.2.1, ← C.2.1, ← D.2.1]
    have h1 := A.2.2.1
    have h2 := B.2.2.1
    have h3 := C.2.2.1
    have h4 := D.2.2.1
    generalize (a &&& 128) = a1 at h1 ⊢
    generalize (b &&& 128) = b1 at h2 ⊢
    generalize (c &&& 128) = c1 at h3 ⊢
    generalize (d &&& 128) = d1 at h4 ⊢
    unfold w4
    omega
  have e5 : IntKind.u32.wrap ((s : Int) * 27) = (t : Int) := by
    rw [IntKind.wrap_u32, hs, ht]
    have h1 : a / 128 < 2 := by omega
    have h2 : b / 128 < 2 := by omega
    have h3 : c / 128 < 2 := by omega
    have h4 : d / 128 < 2 := by omega
    generalize a / 128 = a1 at h1 ⊢
    generalize b / 128 = b1 at h2 ⊢
    generalize c / 128 = c1 at h3 ⊢
    generalize d / 128 = d1 at h4 ⊢
    unfold w4
    omega
  have e6 : bits .xor .u32 (z : Int) (t : Int) = (r : Int) := by
    rw [bits_xor32 z t hzl htl, hz, ht, hr, w4_xor (by omega) (by omega) (by omega) (by omega) (by omega) (by omega), xt_parts a ha, xt_parts b hb, xt_parts c hc, xt_parts d hd]
  rw [← hx, ← hr]
  clear hx hp hy hz hs ht hr A B C D hxl hpl hzl htl ha hb hc hd
  go_enter Try.func44, Try.ntmps44
  go_wp2
  go_ret
  exact ⟨rfl, rfl⟩
set_option maxHeartbeats 4000000 in
set_option maxRecDepth 20000 in
theorem rotw_8 (a b c d : Nat) (w : World) (ha : a < 256) (hb : b < 256) (hc : c < 256) (hd : d < 256) : Calls Try.prog 33 #[.int .u32 ((w4 a b c d : Nat) : Int), .int .i64 8] w fun e w' => e = .returned (.int .u32 ((w4 b c d a : Nat) : Int)) ∧ w' = w := by
  obtain ⟨x, hx⟩ := nat_var (w4 a b c d)
  obtain ⟨s, hs⟩ := nat_var (w4 b c d 0)
  obtain ⟨t, ht⟩ := nat_var (w4 0 0 0 a)
  obtain ⟨r, hr⟩ := nat_var (w4 b c d a)
  have e1 : IntKind.u32.wrap ((x : Int) * 256) = (s : Int) := by rw [IntKind.wrap_u32, hx, hs]; unfold w4; omega
  have e2 : (x : Int) / 16777216 = (t : Int) := by rw [hx, ht]; unfold w4; omega
  have e3 : bits .or .u32 (s : Int) (t : Int) = (r : Int) := by
    rw [bits_or32 s t (by rw [hs]; exact w4_lt (by omega) (by omega) (by omega) (by omega)) (by rw [ht]; exact w4_lt (by omega) (by omega) (by omega) (by omega)), hs, ht, hr, w4_or (by omega) (by omega) (by omega) (by omega) (by omega) (by omega)]
    simp
  have c1 : bits .and .u64 8 31 = 8 := by decide
  rw [← hx, ← hr]
  clear hx hs ht hr ha hb hc hd
  go_enter Try.func33, Try.ntmps33
  go_wp2
  go_ret
  exact ⟨rfl, rfl⟩
set_option maxHeartbeats 4000000 in
set_option maxRecDepth 20000 in
theorem rotw_16 (a b c d : Nat) (w : World) (ha : a < 256) (hb : b < 256) (hc : c < 256) (hd : d < 256) : Calls Try.prog 33 #[.int .u32 ((w4 a b c d : Nat) : Int), .int .i64 16] w fun e w' => e = .returned (.int .u32 ((w4 c d a b : Nat) : Int)) ∧ w' = w := by
  obtain ⟨x, hx⟩ := nat_var (w4 a b c d)
  obtain ⟨s, hs⟩ := nat_var (w4 c d 0 0)
  obtain ⟨t, ht⟩ := nat_var (w4 0 0 a b)
  obtain ⟨r, hr⟩ := nat_var (w4 c d a b)
  have e1 : IntKind.u32.wrap ((x : Int) * 65536) = (s : Int) := by rw [IntKind.wrap_u32, hx, hs]; unfold w4; omega
  have e2 : (x : Int) / 65536 = (t : Int) := by rw [hx, ht]; unfold w4; omega
  have e3 : bits .or .u32 (s : Int) (t : Int) = (r : Int) := by
    rw [bits_or32 s t (by rw [hs]; exact w4_lt (by omega) (by omega) (by omega) (by omega)) (by rw [ht]; exact w4_lt (by omega) (by omega) (by omega) (by omega)), hs, ht, hr, w4_or (by omega) (by omega) (by omega) (by omega) (by omega) (by omega)]
    simp
  have c1 : bits .and .u64 16 31 = 16 := by decide
  rw [← hx, ← hr]
  clear hx hs ht hr ha hb hc hd
  go_enter Try.func33, Try.ntmps33
  go_wp2
  go_ret
  exact ⟨rfl, rfl⟩
set_option maxHeartbeats 4000000 in
set_option maxRecDepth 20000 in
theorem rotw_24 (a b c d : Nat) (w : World) (ha : a < 256) (hb : b < 256) (hc : c < 256) (hd : d < 256) : Calls Try.prog 33 #[.int .u32 ((w4 a b c d : Nat) : Int), .int .i64 24] w fun e w' => e = .returned (.int .u32 ((w4 d a b c : Nat) : Int)) ∧ w' = w := by
  obtain ⟨x, hx⟩ := nat_var (w4 a b c d)
  obtain ⟨s, hs⟩ := nat_var (w4 d 0 0 0)
  obtain ⟨t, ht⟩ := nat_var (w4 0 a b c)
  obtain ⟨r, hr⟩ := nat_var (w4 d a b c)
  have e1 : IntKind.u32.wrap ((x : Int) * 16777216) = (s : Int) := by rw [IntKind.wrap_u32, hx, hs]; unfold w4; omega
  have e2 : (x : Int) / 256 = (t : Int) := by rw [hx, ht]; unfold w4; omega
  have e3 : bits .or .u32 (s : Int) (t : Int) = (r : Int) := by
    rw [bits_or32 s t (by rw [hs]; exact w4_lt (by omega) (by omega) (by omega) (by omega)) (by rw [ht]; exact w4_lt (by omega) (by omega) (by omega) (by omega)), hs, ht, hr, w4_or (by omega) (by omega) (by omega) (by omega) (by omega) (by omega)]
    simp
  have c1 : bits .and .u64 24 31 = 24 := by decide
  rw [← hx, ← hr]
  clear hx hs ht hr ha hb hc hd
  go_enter Try.func33, Try.ntmps33
  go_wp2
  go_ret
  exact ⟨rfl, rfl⟩
theorem and_255 (x : Nat) (h : x < 4294967296) : bits .and .u32 (x : Int) 255 = ((x % 256 : Nat) : Int) := (bits_and32 x 255 h (by decide)).trans (by rw [Nat.and_two_pow_sub_one_eq_mod x 8])
set_option maxHeartbeats 4000000 in
set_option maxRecDepth 20000 in
theorem sub_any (b : Nat) (F : Nat → Value) (p q r s : Nat) (w : World) (hR : w.rowIs b 57 316 F) (hF : ∀ j, j < 256 → F j = .int .u8 ((boxN j : Nat) : Int)) (hp : p < 256) (hq : q < 256) (hr : r < 256) (hs : s < 256) : Calls Try.prog 32 #[.pointer (some ⟨b, 0, none⟩), .int .u32 ((w4 p q r s : Nat) : Int)] w fun e w' => e = .returned (.int .u32 ((w4 (boxN p) (boxN q) (boxN r) (boxN s) : Nat) : Int)) ∧ Below w.heap.size w w' := by
  have Bw0 := Below.refl w.heap.size w
  obtain ⟨x, hx⟩ := nat_var (w4 p q r s)
  obtain ⟨RES, hRES⟩ := nat_var (w4 (boxN p) (boxN q) (boxN r) (boxN s))
  have hxl : x < 4294967296 := by rw [hx]; exact w4_lt hp hq hr hs
  have W4 := w4_parts hp hq hr hs
  rw [← hx] at W4
  obtain ⟨p1, hp1⟩ := nat_var (boxN p)
  obtain ⟨q1, hq1⟩ := nat_var (boxN q)
  obtain ⟨r1, hr1⟩ := nat_var (boxN r)
  obtain ⟨s1, hs1⟩ := nat_var (boxN s)
  have p1l : p1 < 256 := by rw [hp1]; exact boxN_lt p
  have q1l : q1 < 256 := by rw [hq1]; exact boxN_lt q
  have r1l : r1 < 256 := by rw [hr1]; exact boxN_lt r
  have s1l : s1 < 256 := by rw [hs1]; exact boxN_lt s
  have CP : ∀ w0, Below w.drew.heap.size w.drew w0 → w0.cell? ⟨b, p, none⟩ = some (.int .u8 (p1 : Int)) := fun w0 hb => by rw [hp1, ← hF p hp]; exact (zrb hR.drew hb).cell (by omega)
  have CQ : ∀ w0, Below w.drew.heap.size w.drew w0 → w0.cell? ⟨b, q, none⟩ = some (.int .u8 (q1 : Int)) := fun w0 hb => by rw [hq1, ← hF q hq]; exact (zrb hR.drew hb).cell (by omega)
  have CR : ∀ w0, Below w.drew.heap.size w.drew w0 → w0.cell? ⟨b, r, none⟩ = some (.int .u8 (r1 : Int)) := fun w0 hb => by rw [hr1, ← hF r hr]; exact (zrb hR.drew hb).cell (by omega)
  have CS : ∀ w0, Below w.drew.heap.size w.drew w0 → w0.cell? ⟨b, s, none⟩ = some (.int .u8 (s1 : Int)) := fun w0 hb => by rw [hs1, ← hF s hs]; exact (zrb hR.drew hb).cell (by omega)
  obtain ⟨p2, hp2⟩ := nat_var (w4 p1 0 0 0)
  obtain ⟨q2, hq2⟩ := nat_var (w4 0 q1 0 0)
  obtain ⟨r2, hr2⟩ := nat_var (w4 0 0 r1 0)
  obtain ⟨o1, ho1⟩ := nat_var (w4 p1 q1 0 0)
  obtain ⟨o2, ho2⟩ := nat_var (w4 p1 q1 r1 0)
  obtain ⟨o3, ho3⟩ := nat_var (w4 p1 q1 r1 s1)
  obtain ⟨qq, hqq⟩ := nat_var (x / 65536)
  obtain ⟨rr, hrr⟩ := nat_var (x / 256)
  have OR := w4_or0 p1l q1l r1l s1l
  have a1 : (x : Int) / 16777216 = (p : Int) := by omega
  have a2 : (x : Int) / 65536 = (qq : Int) := by omega
  have a3 : (x : Int) / 256 = (rr : Int) := by omega
  have a4 : bits .and .u32 (qq : Int) 255 = (q : Int) := by rw [and_255 qq (by omega)]; omega
  have a5 : bits .and .u32 (rr : Int) 255 = (r : Int) := by rw [and_255 rr (by omega)]; omega
  have a6 : bits .and .u32 (x : Int) 255 = (s : Int) := by rw [and_255 x hxl]; omega
  have b1 : IntKind.u32.wrap (p1 : Int) = (p1 : Int) := by rw [IntKind.wrap_u32]; omega
  have b2 : IntKind.u32.wrap (q1 : Int) = (q1 : Int) := by rw [IntKind.wrap_u32]; omega
  have b3 : IntKind.u32.wrap (r1 : Int) = (r1 : Int) := by rw [IntKind.wrap_u32]; omega
  have b4 : IntKind.u32.wrap (s1 : Int) = (s1 : Int) := by rw [IntKind.wrap_u32]; omega
  have c1 : IntKind.u32.wrap ((p1 : Int) * 16777216) = (p2 : Int) := by rw [IntKind.wrap_u32, hp2]; unfold w4; omega
  have c2 : IntKind.u32.wrap ((q1 : Int) * 65536) = (q2 : Int) := by rw [IntKind.wrap_u32, hq2]; unfold w4; omega
  have c3 : IntKind.u32.wrap ((r1 : Int) * 256) = (r2 : Int) := by rw [IntKind.wrap_u32, hr2]; unfold w4; omega
  have d1 : bits .or .u32 (p2 : Int) (q2 : Int) = (o1 : Int) := by rw [bits_or32 p2 q2 (by rw [hp2]; exact w4_lt p1l (by decide) (by decide) (by decide)) (by rw [hq2]; exact w4_lt (by decide) q1l (by decide) (by decide)), hp2, hq2, OR.1, ho1]
  have d2 : bits .or .u32 (o1 : Int) (r2 : Int) = (o2 : Int) := by rw [bits_or32 o1 r2 (by rw [ho1]; exact w4_lt p1l q1l (by decide) (by decide)) (by rw [hr2]; exact w4_lt (by decide) (by decide) r1l (by decide)), ho1, hr2, OR.2.1, ho2]
  have d3 : bits .or .u32 (o2 : Int) (s1 : Int) = (o3 : Int) := by
    have h := OR.2.2
    rw [show w4 0 0 0 s1 = s1 by unfold w4; omega] at h
    rw [bits_or32 o2 s1 (by rw [ho2]; exact w4_lt p1l q1l r1l (by decide)) (by omega), ho2, h, ho3]
  have pI : 0 ≤ (p : Int) ∧ (p : Int) < 256 := by omega
  have qI : 0 ≤ (q : Int) ∧ (q : Int) < 256 := by omega
  have rI : 0 ≤ (r : Int) ∧ (r : Int) < 256 := by omega
  have sI : 0 ≤ (s : Int) ∧ (s : Int) < 256 := by omega
  have HO : Hid (o3 = RES) := Lib.hid (by rw [ho3, hRES, hp1, hq1, hr1, hs1])
  rw [← hx, ← hRES]
  have CP := Lib.hid CP
  have CQ := Lib.hid CQ
  have CR := Lib.hid CR
  have CS := Lib.hid CS
  clear hx hRES hxl W4 hp1 hq1 hr1 hs1 p1l q1l r1l s1l hp2 hq2 hr2 ho1 ho2 ho3 hqq hrr OR hF hp hq hr hs
  go_enter Try.func32, Try.ntmps32
  go_wp2
  refine wp_region_lint (.rd 0 (.rd 1 (.rd 2 (.rd 3 (.rd 4 (.rd 5 (.rd 6 (.rd 7 (.rd 8 (.rd 9 (.rd 10 (.rd 11 (.rd 12 (.rd 13 (.rd 14 (.rd 15 (.rd 16 (.rd 17 (.rd 18 (.rd 19 (.rd 20 (.rd 21 (.rd 22 (.rd 23 (.rd 24 (.rd 25 (.rd 26 (.rd 27 (.rd 28 (.rd 29 (.rd 30 (.rd 31 (.rd 32 (.rd 33 (.rd 34 (.rd 35 (.rd 36 (.rd 37 (.rd 38 (.rd 39 (.rd 40 .done))))))))))))))))))))))))))))))))))))))))) (by kernel_rfl) (by kernel_rfl) (by decide) (by kernel_rfl) (fun d _ _ _ _ h => by cases d <;> exact h) ?_
  refine lint_pure 5 _ _ (.pointer (some ⟨b, 0, none⟩)) rfl rfl rfl rfl rfl (fun w0 hb0 => by unfold mkOp; go_simp; all_goals (with_reducible rfl)) ?_
  simp only [Act.put, zA, zB, zC]
  refine lint_pure 6 _ _ (.int .u32 (x : Int)) rfl rfl rfl rfl rfl (fun w0 hb0 => by unfold mkOp; go_simp; all_goals (with_reducible rfl)) ?_
  simp only [Act.put, zA, zB, zC]
  refine lint_pure 7 _ _ (.int .u32 (p : Int)) rfl rfl rfl rfl rfl (fun w0 hb0 => by unfold mkOp; go_simp; all_goals (with_reducible rfl)) ?_
  simp only [Act.put, zA, zB, zC]
  refine lint_pure 8 _ _ (.pointer (some ⟨b, 0, none⟩)) rfl rfl rfl rfl rfl (fun w0 hb0 => by unfold mkOp; go_simp; all_goals (with_reducible rfl)) ?_
  simp only [Act.put, zA, zB, zC]
  refine lint_pure 9 _ _ (.pointer (some ⟨b, 0, none⟩)) rfl rfl rfl rfl rfl (fun w0 hb0 => by unfold mkOp; go_simp; all_goals (with_reducible rfl)) ?_
  simp only [Act.put, zA, zB, zC]
  refine lint_pure 10 _ _ (.pointer (some ⟨b, p, none⟩)) rfl rfl rfl rfl rfl (fun w0 hb0 => by unfold mkOp; go_simp; all_goals (with_reducible rfl)) ?_
  simp only [Act.put, zA, zB, zC]
  refine lint_pure 11 _ _ (.int .u8 (p1 : Int)) rfl rfl rfl rfl rfl (fun w0 hb0 => by have c9 := CP.out w0 hb0; unfold mkOp; go_simp; all_goals (with_reducible rfl)) ?_
  simp only [Act.put, zA, zB, zC]
  refine lint_pure 12 _ _ (.int .u32 (p1 : Int)) rfl rfl rfl rfl rfl (fun w0 hb0 => by unfold mkOp; go_simp; all_goals (with_reducible rfl)) ?_
  simp only [Act.put, zA, zB, zC]
  refine lint_pure 13 _ _ (.int .u32 (p2 : Int)) rfl rfl rfl rfl rfl (fun w0 hb0 => by unfold mkOp; go_simp; all_goals (with_reducible rfl)) ?_
  simp only [Act.put, zA, zB, zC]
  refine lint_pure 14 _ _ (.pointer (some ⟨b, 0, none⟩)) rfl rfl rfl rfl rfl (fun w0 hb0 => by unfold mkOp; go_simp; all_goals (with_reducible rfl)) ?_
  simp only [Act.put, zA, zB, zC]
  refine lint_pure 15 _ _ (.int .u32 (x : Int)) rfl rfl rfl rfl rfl (fun w0 hb0 => by unfold mkOp; go_simp; all_goals (with_reducible rfl)) ?_
  simp only [Act.put, zA, zB, zC]
  refine lint_pure 16 _ _ (.int .u32 (qq : Int)) rfl rfl rfl rfl rfl (fun w0 hb0 => by unfold mkOp; go_simp; all_goals (with_reducible rfl)) ?_
  simp only [Act.put, zA, zB, zC]
  refine lint_pure 17 _ _ (.int .u32 (q : Int)) rfl rfl rfl rfl rfl (fun w0 hb0 => by unfold mkOp; go_simp; all_goals (with_reducible rfl)) ?_
  simp only [Act.put, zA, zB, zC]
  refine lint_pure 18 _ _ (.pointer (some ⟨b, 0, none⟩)) rfl rfl rfl rfl rfl (fun w0 hb0 => by unfold mkOp; go_simp; all_goals (with_reducible rfl)) ?_
  simp only [Act.put, zA, zB, zC]
  refine lint_pure 19 _ _ (.pointer (some ⟨b, 0, none⟩)) rfl rfl rfl rfl rfl (fun w0 hb0 => by unfold mkOp; go_simp; all_goals (with_reducible rfl)) ?_
  simp only [Act.put, zA, zB, zC]
  refine lint_pure 20 _ _ (.pointer (some ⟨b, q, none⟩)) rfl rfl rfl rfl rfl (fun w0 hb0 => by unfold mkOp; go_simp; all_goals (with_reducible rfl)) ?_
  simp only [Act.put, zA, zB, zC]
  refine lint_pure 21 _ _ (.int .u8 (q1 : Int)) rfl rfl rfl rfl rfl (fun w0 hb0 => by have c9 := CQ.out w0 hb0; unfold mkOp; go_simp; all_goals (with_reducible rfl)) ?_
  simp only [Act.put, zA, zB, zC]
  refine lint_pure 22 _ _ (.int .u32 (q1 : Int)) rfl rfl rfl rfl rfl (fun w0 hb0 => by unfold mkOp; go_simp; all_goals (with_reducible rfl)) ?_
  simp only [Act.put, zA, zB, zC]
  refine lint_pure 23 _ _ (.int .u32 (q2 : Int)) rfl rfl rfl rfl rfl (fun w0 hb0 => by unfold mkOp; go_simp; all_goals (with_reducible rfl)) ?_
  simp only [Act.put, zA, zB, zC]
  refine lint_pure 24 _ _ (.int .u32 (o1 : Int)) rfl rfl rfl rfl rfl (fun w0 hb0 => by unfold mkOp; go_simp; all_goals (with_reducible rfl)) ?_
  simp only [Act.put, zA, zB, zC]
  refine lint_pure 25 _ _ (.pointer (some ⟨b, 0, none⟩)) rfl rfl rfl rfl rfl (fun w0 hb0 => by unfold mkOp; go_simp; all_goals (with_reducible rfl)) ?_
  simp only [Act.put, zA, zB, zC]
  refine lint_pure 26 _ _ (.int .u32 (x : Int)) rfl rfl rfl rfl rfl (fun w0 hb0 => by unfold mkOp; go_simp; all_goals (with_reducible rfl)) ?_
  simp only [Act.put, zA, zB, zC]
  refine lint_pure 27 _ _ (.int .u32 (rr : Int)) rfl rfl rfl rfl rfl (fun w0 hb0 => by unfold mkOp; go_simp; all_goals (with_reducible rfl)) ?_
  simp only [Act.put, zA, zB, zC]
  refine lint_pure 28 _ _ (.int .u32 (r : Int)) rfl rfl rfl rfl rfl (fun w0 hb0 => by unfold mkOp; go_simp; all_goals (with_reducible rfl)) ?_
  simp only [Act.put, zA, zB, zC]
  refine lint_pure 29 _ _ (.pointer (some ⟨b, 0, none⟩)) rfl rfl rfl rfl rfl (fun w0 hb0 => by unfold mkOp; go_simp; all_goals (with_reducible rfl)) ?_
  simp only [Act.put, zA, zB, zC]
  refine lint_pure 30 _ _ (.pointer (some ⟨b, 0, none⟩)) rfl rfl rfl rfl rfl (fun w0 hb0 => by unfold mkOp; go_simp; all_goals (with_reducible rfl)) ?_
  simp only [Act.put, zA, zB, zC]
  refine lint_pure 31 _ _ (.pointer (some ⟨b, r, none⟩)) rfl rfl rfl rfl rfl (fun w0 hb0 => by unfold mkOp; go_simp; all_goals (with_reducible rfl)) ?_
  simp only [Act.put, zA, zB, zC]
  refine lint_pure 32 _ _ (.int .u8 (r1 : Int)) rfl rfl rfl rfl rfl (fun w0 hb0 => by have c9 := CR.out w0 hb0; unfold mkOp; go_simp; all_goals (with_reducible rfl)) ?_
  simp only [Act.put, zA, zB, zC]
  refine lint_pure 33 _ _ (.int .u32 (r1 : Int)) rfl rfl rfl rfl rfl (fun w0 hb0 => by unfold mkOp; go_simp; all_goals (with_reducible rfl)) ?_
  simp only [Act.put, zA, zB, zC]
  refine lint_pure 34 _ _ (.int .u32 (r2 : Int)) rfl rfl rfl rfl rfl (fun w0 hb0 => by unfold mkOp; go_simp; all_goals (with_reducible rfl)) ?_
  simp only [Act.put, zA, zB, zC]
  refine lint_pure 35 _ _ (.int .u32 (o2 : Int)) rfl rfl rfl rfl rfl (fun w0 hb0 => by unfold mkOp; go_simp; all_goals (with_reducible rfl)) ?_
  simp only [Act.put, zA, zB, zC]
  refine lint_pure 36 _ _ (.pointer (some ⟨b, 0, none⟩)) rfl rfl rfl rfl rfl (fun w0 hb0 => by unfold mkOp; go_simp; all_goals (with_reducible rfl)) ?_
  simp only [Act.put, zA, zB, zC]
  refine lint_pure 37 _ _ (.int .u32 (x : Int)) rfl rfl rfl rfl rfl (fun w0 hb0 => by unfold mkOp; go_simp; all_goals (with_reducible rfl)) ?_
  simp only [Act.put, zA, zB, zC]
  refine lint_pure 38 _ _ (.int .u32 (s : Int)) rfl rfl rfl rfl rfl (fun w0 hb0 => by unfold mkOp; go_simp; all_goals (with_reducible rfl)) ?_
  simp only [Act.put, zA, zB, zC]
  refine lint_pure 39 _ _ (.pointer (some ⟨b, 0, none⟩)) rfl rfl rfl rfl rfl (fun w0 hb0 => by unfold mkOp; go_simp; all_goals (with_reducible rfl)) ?_
  simp only [Act.put, zA, zB, zC]
  refine lint_pure 40 _ _ (.pointer (some ⟨b, 0, none⟩)) rfl rfl rfl rfl rfl (fun w0 hb0 => by unfold mkOp; go_simp; all_goals (with_reducible rfl)) ?_
  simp only [Act.put, zA, zB, zC]
  refine lint_pure 41 _ _ (.pointer (some ⟨b, s, none⟩)) rfl rfl rfl rfl rfl (fun w0 hb0 => by unfold mkOp; go_simp; all_goals (with_reducible rfl)) ?_
  simp only [Act.put, zA, zB, zC]
  refine lint_pure 42 _ _ (.int .u8 (s1 : Int)) rfl rfl rfl rfl rfl (fun w0 hb0 => by have c9 := CS.out w0 hb0; unfold mkOp; go_simp; all_goals (with_reducible rfl)) ?_
  simp only [Act.put, zA, zB, zC]
  refine lint_pure 43 _ _ (.int .u32 (s1 : Int)) rfl rfl rfl rfl rfl (fun w0 hb0 => by unfold mkOp; go_simp; all_goals (with_reducible rfl)) ?_
  simp only [Act.put, zA, zB, zC]
  refine lint_pure 44 _ _ (.int .u32 (o3 : Int)) rfl rfl rfl rfl rfl (fun w0 hb0 => by unfold mkOp; go_simp; all_goals (with_reducible rfl)) ?_
  simp only [Act.put, zA, zB, zC]
  refine lint_pure 4 _ _ (.int .u32 (o3 : Int)) rfl rfl rfl rfl rfl (fun w0 hb0 => by unfold mkOp; go_simp; all_goals (with_reducible rfl)) ?_
  simp only [Act.put, zA, zB, zC]
  refine lint_end ?_
  go_wp2
  go_ret
  obtain rfl := HO.out
  exact ⟨rfl, Bw0.drew⟩
end Go.Proofs.Ytiapkfeamochfaa

/- The program's AES: what a round does to a state. -/
namespace Go.Proofs.Ytiapkfeamochfaa
open Go.RowKit Go.Deep
set_option linter.unusedSimpArgs false
set_option linter.unusedVariables false

theorem arrSt : IsArr Try.prog 63 4 := ⟨by kernel_rfl, by kernel_rfl⟩
theorem zeroSt : (Try.prog.info? 63).map (fun i => i.zero) = some (some (.agg (arrOf 4 (cF .u32 fun _ => 0)))) := by kernel_rfl
theorem ea_storeC {P : Program} {ops : Array Oper} {Q : Exit → Act → World → Prop} {r : List (Nat × Option (List Nat))} {a : Act} {w : World} {o : Oper} {i : Nat} {R : Nat → World → Prop} {ty : TypeId} {x y : Operand} {t t' : TypeId} {b j z n : Nat} {k : IntKind} {f : Nat → Nat} (g : Nat → Nat) (hr : writers r = []) (ho : ops[i]? = some o) (hd : o.dst = none) (hop : o.op = .store ty x y) (ht : o.type = t) (hw : Region.wanted o (yielded ops a.tmps) = true)
    (hrow : w.rowIs b t' n (cF k f)) (hi : j < n) (hx : a.eval x = .pointer (some ⟨b, j, none⟩)) (hy : a.eval y = .int k (z : Int)) (hs : (P.info? ty).map (fun i => i.size) = some 1) (hg : ∀ k, k < n → g k = if k = j then z else f k)
    (h : ∀ w', w'.rowIs b t' n (cF k g) → w.grownBy w' (some b) → LinS P ops Q r Any a w') : LinS P ops Q ((i, none) :: r) R a w :=
  lins_store _ t _ ho hd hop ht hw (exec_store_cell (P := P) a.eval ty x y t hrow hx hy hs rfl rfl hi) Any (fun c hc => by rw [hr] at hc; cases hc) (h _ (cF_set hrow j z hg) (grownBy_set _ _ _ _))
theorem cF_cell {w : World} {b n : Nat} {t : TypeId} {k : IntKind} {f : Nat → Nat} (h : w.rowIs b t n (cF k f)) (j : Nat) (hj : j < n) {x : Nat} (hx : f j = x) : w.cell? ⟨b, j, none⟩ = some (.int k (x : Int)) := by
  subst hx
  exact h.cell hj
theorem upN_stepC (G A : Nat → Nat) (n z m : Nat) (h : G n = z) (j : Nat) (_ : j < m) : upN G A (n + 1) j = if j = n then z else upN G A n j := by
  unfold upN
  by_cases e : j = n
  · rw [if_pos (by omega), if_pos e, e, h]
  · rw [if_neg e]
    by_cases h2 : j < n
    · rw [if_pos h2, if_pos (by omega)]
    · rw [if_neg h2, if_neg (by omega)]
theorem cF_all {w : World} {b n : Nat} {t : TypeId} {k : IntKind} {G A : Nat → Nat} (h : w.rowIs b t n (cF k (upN G A n))) : w.rowIs b t n (cF k G) := h.congr fun j hj => by
  unfold cF upN
  rw [if_pos hj]
theorem wd_ark (A W : Nat → Nat) (hA : ∀ j, A j < 256) (hW : ∀ j, W j < 256) (k c : Nat) : wd (arkN A W k) c = wd A c ^^^ wd W (4 * k + c) := by
  unfold wd arkN
  rw [w4_xor (hA _) (hA _) (hA _) (hW _) (hW _) (hW _), show 4 * (4 * k + c) = 16 * k + 4 * c by omega]
  rfl
/-- The rows shifted. -/
def shR (A : Nat → Nat) (j : Nat) : Nat := A (4 * ((j / 4 + j % 4) % 4) + j % 4)
theorem shR_lt (A : Nat → Nat) (h : ∀ j, A j < 256) (j : Nat) : shR A j < 256 := h _
theorem shR_at (A : Nat → Nat) (c r : Nat) (hr : r < 4) : shR A (4 * c + r) = A (4 * ((c + r) % 4) + r) := by
  unfold shR
  rw [show (4 * c + r) / 4 = c by omega, show (4 * c + r) % 4 = r by omega]
theorem mixN_at (A : Nat → Nat) (hA : ∀ j, A j < 256) (c r : Nat) (hr : r < 4) : mixN A (4 * c + r) = ((xtN (A (4 * c + r) ^^^ A (4 * c + (r + 1) % 4)) ^^^ A (4 * c + (r + 1) % 4)) ^^^ A (4 * c + (r + 2) % 4)) ^^^ A (4 * c + (r + 3) % 4) := by
  unfold mixN
  rw [show (4 * c + r) / 4 = c by omega, show (4 * c + r) % 4 = r by omega, gfm_two _ (hA _), gfm_three _ (hA _), xt_lin _ _ (hA _) (hA _)]
  generalize xtN (A (4 * c + r)) = p
  generalize xtN (A (4 * c + (r + 1) % 4)) = q
  generalize A (4 * c + (r + 1) % 4) = s
  generalize A (4 * c + (r + 2) % 4) = t
  generalize A (4 * c + (r + 3) % 4) = u
  ac_rfl
set_option maxHeartbeats 4000000 in
set_option maxRecDepth 20000 in
theorem addKey_any (b : Nat) (F : Nat → Value) (A W : Nat → Nat) (k : Nat) (w : World) (hR : w.rowIs b 57 316 F) (hF : ∀ j, j < 60 → F (256 + j) = .int .u32 ((wd W j : Nat) : Int)) (hA : ∀ j, A j < 256) (hW : ∀ j, W j < 256) (hk : k < 15) : Calls Try.prog 35 #[.pointer (some ⟨b, 0, none⟩), .agg (arrOf 4 (cF .u32 (wd A))), .int .i64 (k : Int)] w fun e w' => e = .returned (.agg (arrOf 4 (cF .u32 (wd (arkN A W k))))) ∧ Below w.heap.size w w' := by
  have Bw0 := Below.refl w.heap.size w
  have HGS : Hid (∀ wq : World, Below w.heap.size w wq → w.heap.size ≤ wq.heap.size) := Lib.hid fun wq h => h.size
  have HR := Lib.hid hR
  have HF := Lib.hid hF
  have HA := Lib.hid hA
  have HW := Lib.hid hW
  have HK := Lib.hid hk
  obtain ⟨G, hG⟩ : ∃ G, G = wd (arkN A W k) := ⟨_, rfl⟩
  rw [← hG]
  have HG := Lib.hid hG
  clear hR hF hA hW hk hG
  go_enter Try.func35, Try.ntmps35
  go_wp2_with (first
    | (have hgo := Bw0; clear hgo
       refine wpList_box_row rfl 63 (.tmp 1) rfl 4 (cF .u32 (wd A)) rfl ?_
       intro b_t4 w1 lk r_t4 kk
       have l_t4 := zrl HGS Bw0 lk
       have Bw1 := zbt HGS Bw0 kk
       clear Bw0 kk lk)
    | (have hgo := Bw1; clear hgo
       refine wpList_alloc_row rfl 63 rfl 4 (cF .u32 fun _ => 0) zeroSt ?_
       intro b_t6 w2 lk r_t6 kk
       have n_t4_t6 := zrn r_t4 lk
       have l_t6 := zrl HGS Bw1 lk
       replace r_t4 := zrb r_t4 kk
       have Bw2 := zbt HGS Bw1 kk
       clear Bw1 kk lk))
  go_loopw [8] (fun iv wr => ∃ i : Nat, i ≤ 4 ∧ iv = .int .i64 (i : Int) ∧ wr.rowIs b_t4 63 4 (cF .u32 (upN G (wd A) i)) ∧ wr.rowIs b_t6 63 4 (cF .u32 fun _ => 0) ∧ Below w.heap.size w wr) (fun iv _ => 4 - (intOf iv).toNat)
  case atStart => exact ⟨0, by decide, rfl, by rw [upN_zero]; exact r_t4, r_t6, Bw2⟩
  case round =>
    clear r_t4 r_t6 Bw2
    obtain ⟨i, hi, rfl, r_t4, r_t6, Bw0⟩ := hrel
    by_cases hlt : i < 4
    · have hiI : 0 ≤ (i : Int) ∧ (i : Int) < 4 := by omega
      have HI := Lib.hid hlt
      have hk := HK.out
      obtain ⟨m, hm⟩ := nat_var (4 * k)
      obtain ⟨q, hq⟩ := nat_var (m + i)
      have hw1 : IntKind.i64.wrap (4 * (k : Int)) = (m : Int) := by rw [IntWalk.i64_in _ (by omega)]; omega
      have hw2 : IntKind.i64.wrap ((m : Int) + (i : Int)) = (q : Int) := by rw [IntWalk.i64_in _ (by omega)]; omega
      have hqI : 0 ≤ (q : Int) ∧ (q : Int) < 60 := by omega
      obtain ⟨x, hx⟩ := nat_var (wd A i)
      obtain ⟨y, hy⟩ := nat_var (wd W q)
      obtain ⟨z, hz⟩ := nat_var (x ^^^ y)
      have e1 : bits .xor .u32 (x : Int) (y : Int) = (z : Int) := by rw [hz]; exact bits_xor32 x y (by rw [hx]; exact wd_lt HA.out _) (by rw [hy]; exact wd_lt HW.out _)
      have HZ : Hid (G i = z) := Lib.hid (by rw [HG.out, wd_ark A W HA.out HW.out, hz, hx, hy, hq, hm])
      replace r_t4 := r_t4.drew
      replace r_t6 := r_t6.drew
      replace Bw0 := Bw0.drew
      have c1 := cF_cell r_t4 i hlt (x := x) (by rw [upN_at, hx])
      have c2 : wr.drew.cell? ⟨b, 256 + q, none⟩ = some (.int .u32 (y : Int)) := by rw [hy, ← HF.out q (by omega)]; exact (zrb HR.out Bw0).cell (by omega)
      clear hx hy hz hi hlt hm hq hk
      go_wp2
      refine ea_start [(0, some [14]), (1, some [14]), (2, some [14]), (3, some [14]), (4, some [14]), (5, some [14]), (6, some [14]), (7, some [14]), (8, some [14]), (9, some [14]), (10, some [14]), (11, some [14]), (12, some [14]), (13, some [14]), (14, none)] (by kernel_rfl) (by kernel_rfl) (by decide) (by kernel_rfl) (fun d _ _ _ _ h => by cases d <;> exact h) ?_
      refine ea_rd 11 (.int .i64 (i : Int)) rfl rfl rfl rfl rfl (by unfold mkOp; go_simp; all_goals (with_reducible rfl)) ?_
      simp only [Act.put, zA, zB, zC]
      refine ea_rd 12 (.pointer (some ⟨b_t4, i, none⟩)) rfl rfl rfl rfl rfl (by unfold mkOp; go_simp; all_goals (with_reducible rfl)) ?_
      simp only [Act.put, zA, zB, zC]
      refine ea_rd 13 (.int .u32 (x : Int)) rfl rfl rfl rfl rfl (by have c9 := c1; unfold mkOp; go_simp; all_goals (with_reducible rfl)) ?_
      simp only [Act.put, zA, zB, zC]
      refine ea_rd 14 (.pointer (some ⟨b, 0, none⟩)) rfl rfl rfl rfl rfl (by unfold mkOp; go_simp; all_goals (with_reducible rfl)) ?_
      simp only [Act.put, zA, zB, zC]
      refine ea_rd 15 (.int .i64 (k : Int)) rfl rfl rfl rfl rfl (by unfold mkOp; go_simp; all_goals (with_reducible rfl)) ?_
      simp only [Act.put, zA, zB, zC]
      refine ea_rd 16 (.int .i64 (m : Int)) rfl rfl rfl rfl rfl (by unfold mkOp; go_simp; all_goals (with_reducible rfl)) ?_
      simp only [Act.put, zA, zB, zC]
      refine ea_rd 17 (.int .i64 (i : Int)) rfl rfl rfl rfl rfl (by unfold mkOp; go_simp; all_goals (with_reducible rfl)) ?_
      simp only [Act.put, zA, zB, zC]
      refine ea_rd 18 (.int .i64 (q : Int)) rfl rfl rfl rfl rfl (by unfold mkOp; go_simp; all_goals (with_reducible rfl)) ?_
      simp only [Act.put, zA, zB, zC]
      refine ea_rd 19 (.pointer (some ⟨b, 0, none⟩)) rfl rfl rfl rfl rfl (by unfold mkOp; go_simp; all_goals (with_reducible rfl)) ?_
      simp only [Act.put, zA, zB, zC]
      refine ea_rd 20 (.pointer (some ⟨b, 256, none⟩)) rfl rfl rfl rfl rfl (by unfold mkOp; go_simp; all_goals (with_reducible rfl)) ?_
      simp only [Act.put, zA, zB, zC]
      refine ea_rd 21 (.pointer (some ⟨b, 256 + q, none⟩)) rfl rfl rfl rfl rfl (by unfold mkOp; go_simp; all_goals (with_reducible rfl)) ?_
      simp only [Act.put, zA, zB, zC]
      refine ea_rd 22 (.int .u32 (y : Int)) rfl rfl rfl rfl rfl (by have c9 := c2; unfold mkOp; go_simp; all_goals (with_reducible rfl)) ?_
      simp only [Act.put, zA, zB, zC]
      refine ea_rd 23 (.int .u32 (z : Int)) rfl rfl rfl rfl rfl (by unfold mkOp; go_simp; all_goals (with_reducible rfl)) ?_
      simp only [Act.put, zA, zB, zC]
      refine ea_rd 24 (.pointer (some ⟨b_t4, i, none⟩)) rfl rfl rfl rfl rfl (by unfold mkOp; go_simp; all_goals (with_reducible rfl)) ?_
      simp only [Act.put, zA, zB, zC]
      refine ea_storeC (upN G (wd A) (i + 1)) rfl rfl rfl rfl rfl rfl r_t4 HI.out rfl rfl (by kernel_rfl) (upN_stepC _ _ i z 4 HZ.out) ?_
      intro w7 q7 g7
      refine le_end ?_
      replace r_t6 := gb_rowIs r_t6 g7 (Ne.symm n_t4_t6)
      have Bw1 := zbg HGS Bw0 g7 l_t4
      clear Bw0 g7 r_t4 e1 c1 c2 hw1 hw2 hqI
      go_wp2
      go_roundw
      case rel => exact ⟨i + 1, HI.out, by have := HI.out; go_num, q7, r_t6, Bw1⟩
      case measure => (have := HI.out; simp [intOf]; try omega)
    · obtain rfl : i = 4 := by omega
      replace r_t4 := cF_all r_t4
      clear hi hlt
      go_wp2_with (first
        | (have hgo := Bw0; clear hgo
           refine wpList_load_as rfl 63 (.tmp 4) rfl 4 (cF .u32 G) arrSt r_t4 rfl (by omega) (fun i hi => by rw [Nat.zero_add]) ?_
           have Bw1 := Bw0
           clear Bw0)
        | (have hgo := Bw1; clear hgo
           refine wpList_store_as rfl 63 (.tmp 6) (.tmp 26) rfl 4 (cF .u32 G) arrSt r_t6 rfl rfl (by omega) (fun _ _ => rfl) (fun i hi => putN_whole hi) ?_
           intro w1 q gk
           replace r_t4 := gb_rowIs r_t4 gk n_t4_t6
           replace r_t6 := q
           have Bw2 := zbg HGS Bw1 gk l_t6
           clear Bw1 gk q))
      exact ret_cell_as _ rfl arrSt r_t6 rfl (by omega) (fun _ _ => rfl) rfl ⟨rfl, Bw2⟩
set_option maxHeartbeats 4000000 in
set_option maxRecDepth 20000 in
theorem subst_any (b : Nat) (F : Nat → Value) (A : Nat → Nat) (w : World) (hR : w.rowIs b 57 316 F) (hF : ∀ j, j < 256 → F j = .int .u8 ((boxN j : Nat) : Int)) (hA : ∀ j, A j < 256) : Calls Try.prog 37 #[.pointer (some ⟨b, 0, none⟩), .agg (arrOf 4 (cF .u32 (wd A)))] w fun e w' => e = .returned (.agg (arrOf 4 (cF .u32 (wd (fun j => boxN (A j)))))) ∧ Below w.heap.size w w' := by
  have Bw0 := Below.refl w.heap.size w
  have HGS : Hid (∀ wq : World, Below w.heap.size w wq → w.heap.size ≤ wq.heap.size) := Lib.hid fun wq h => h.size
  have HR := Lib.hid hR
  have HF := Lib.hid hF
  have HA := Lib.hid hA
  obtain ⟨G, hG⟩ : ∃ G, G = wd (fun j => boxN (A j)) := ⟨_, rfl⟩
  rw [← hG]
  have HG := Lib.hid hG
  clear hR hF hA hG
  go_enter Try.func37, Try.ntmps37
  go_wp2_with (first
    | (have hgo := Bw0; clear hgo
       refine wpList_box_row rfl 63 (.tmp 1) rfl 4 (cF .u32 (wd A)) rfl ?_
       intro b_t3 w1 lk r_t3 kk
       have l_t3 := zrl HGS Bw0 lk
       have Bw1 := zbt HGS Bw0 kk
       clear Bw0 kk lk)
    | (have hgo := Bw1; clear hgo
       refine wpList_alloc_row rfl 63 rfl 4 (cF .u32 fun _ => 0) zeroSt ?_
       intro b_t4 w2 lk r_t4 kk
       have n_t3_t4 := zrn r_t3 lk
       have l_t4 := zrl HGS Bw1 lk
       replace r_t3 := zrb r_t3 kk
       have Bw2 := zbt HGS Bw1 kk
       clear Bw1 kk lk)
    | (have hgo := Bw2; clear hgo
       refine wpList_load_as rfl 63 (.tmp 3) rfl 4 (cF .u32 (wd A)) arrSt r_t3 rfl (by omega) (fun i hi => by rw [Nat.zero_add]) ?_
       have Bw3 := Bw2
       clear Bw2))
  go_loopw [8] (fun iv wr => ∃ i : Nat, i ≤ 4 ∧ iv = .int .i64 (i : Int) ∧ wr.rowIs b_t3 63 4 (cF .u32 (upN G (wd A) i)) ∧ wr.rowIs b_t4 63 4 (cF .u32 fun _ => 0) ∧ Below w.heap.size w wr) (fun iv _ => 4 - (intOf iv).toNat)
  case atStart => exact ⟨0, by decide, rfl, by rw [upN_zero]; exact r_t3, r_t4, Bw3⟩
  case round =>
    clear r_t3 r_t4 Bw3
    obtain ⟨i, hi, rfl, r_t3, r_t4, Bw0⟩ := hrel
    by_cases hlt : i < 4
    · have hiI : 0 ≤ (i : Int) ∧ (i : Int) < 4 := by omega
      have HI := Lib.hid hlt
      obtain ⟨x, hx⟩ := nat_var (wd A i)
      obtain ⟨z, hz⟩ := nat_var (G i)
      have HZ : Hid (G i = z) := Lib.hid hz.symm
      have HX : Hid (wd A i = x) := Lib.hid hx.symm
      have HC : Hid (∀ w1, Below w.heap.size w w1 → Calls Try.prog 32 #[.pointer (some ⟨b, 0, none⟩), .int .u32 (x : Int)] w1 fun e w' => e = .returned (.int .u32 (z : Int)) ∧ Below w1.heap.size w1 w') := Lib.hid fun w1 hb => by
        rw [hx, hz, HG.out]
        exact sub_any b F _ _ _ _ w1 (zrb HR.out hb) HF.out (HA.out _) (HA.out _) (HA.out _) (HA.out _)
      clear hx hz hi hlt
      go_wp2_with (first
        | (have hgo := HX; clear hgo
           refine wpList_index_c rfl 63 53 (.tmp 7) (.tmp 8) rfl 4 (by kernel_rfl) _ rfl rfl (by kernel_rfl) rfl rfl HI.out HX.out ?_
           clear HX)
        | (have hgo := Bw0; clear hgo
           go_at_call 32
           refine (HC.out _ Bw0).mono ?_
           rintro e w1 ⟨rfl, kk⟩
           replace r_t3 := zrb r_t3 kk
           replace r_t4 := zrb r_t4 kk
           have Bw1 := zbt HGS Bw0 kk
           clear Bw0 kk)
        | (have hgo := Bw1; clear hgo
           refine wpList_store_c rfl 53 (.tmp 16) (.tmp 15) rfl (upN G (wd A) (i + 1)) r_t3 HI.out rfl rfl (by kernel_rfl) (upN_stepC _ _ i z 4 HZ.out) ?_
           intro w2 q gk
           replace r_t4 := gb_rowIs r_t4 gk (Ne.symm n_t3_t4)
           replace r_t3 := q
           have Bw2 := zbg HGS Bw1 gk l_t3
           clear Bw1 gk q))
      go_roundw
      case rel => exact ⟨i + 1, HI.out, by have := HI.out; go_num, r_t3, r_t4, Bw2⟩
      case measure => (have := HI.out; simp [intOf]; try omega)
    · obtain rfl : i = 4 := by omega
      replace r_t3 := cF_all r_t3
      clear hi hlt
      go_wp2_with (first
        | (have hgo := Bw0; clear hgo
           refine wpList_load_as rfl 63 (.tmp 3) rfl 4 (cF .u32 G) arrSt r_t3 rfl (by omega) (fun i hi => by rw [Nat.zero_add]) ?_
           have Bw1 := Bw0
           clear Bw0)
        | (have hgo := Bw1; clear hgo
           refine wpList_store_as rfl 63 (.tmp 4) (.tmp 18) rfl 4 (cF .u32 G) arrSt r_t4 rfl rfl (by omega) (fun _ _ => rfl) (fun i hi => putN_whole hi) ?_
           intro w1 q gk
           replace r_t3 := gb_rowIs r_t3 gk n_t3_t4
           replace r_t4 := q
           have Bw2 := zbg HGS Bw1 gk l_t4
           clear Bw1 gk q))
      exact ret_cell_as _ rfl arrSt r_t4 rfl (by omega) (fun _ _ => rfl) rfl ⟨rfl, Bw2⟩
set_option maxHeartbeats 4000000 in
set_option maxRecDepth 20000 in
theorem shift_any (A : Nat → Nat) (w : World) (hA : ∀ j, A j < 256) : Calls Try.prog 38 #[.agg (arrOf 4 (cF .u32 (wd A)))] w fun e w' => e = .returned (.agg (arrOf 4 (cF .u32 (wd (shR A))))) ∧ Below w.heap.size w w' := by
  have Bw0 := Below.refl w.heap.size w
  have HGS : Hid (∀ wq : World, Below w.heap.size w wq → w.heap.size ≤ wq.heap.size) := Lib.hid fun wq h => h.size
  have HA := Lib.hid hA
  obtain ⟨G, hG⟩ : ∃ G, G = wd (shR A) := ⟨_, rfl⟩
  rw [← hG]
  have HG := Lib.hid hG
  clear hA hG
  go_enter Try.func38, Try.ntmps38
  go_wp2_with (first
    | (have hgo := Bw0; clear hgo
       refine wpList_box_row rfl 63 (.tmp 0) rfl 4 (cF .u32 (wd A)) rfl ?_
       intro b_t1 w1 lk r_t1 kk
       have l_t1 := zrl HGS Bw0 lk
       have Bw1 := zbt HGS Bw0 kk
       clear Bw0 kk lk)
    | (have hgo := Bw1; clear hgo
       refine wpList_alloc_row rfl 63 rfl 4 (cF .u32 fun _ => 0) zeroSt ?_
       intro b_t2 w2 lk r_t2 kk
       have n_t1_t2 := zrn r_t1 lk
       have l_t2 := zrl HGS Bw1 lk
       replace r_t1 := zrb r_t1 kk
       have Bw2 := zbt HGS Bw1 kk
       clear Bw1 kk lk)
    | (have hgo := Bw2; clear hgo
       refine wpList_alloc_row rfl 63 rfl 4 (cF .u32 fun _ => 0) zeroSt ?_
       intro b_t3 w3 lk r_t3 kk
       have n_t1_t3 := zrn r_t1 lk
       have n_t2_t3 := zrn r_t2 lk
       have l_t3 := zrl HGS Bw2 lk
       replace r_t1 := zrb r_t1 kk
       replace r_t2 := zrb r_t2 kk
       have Bw3 := zbt HGS Bw2 kk
       clear Bw2 kk lk))
  go_loopw [5] (fun iv wr => ∃ i : Nat, i ≤ 4 ∧ iv = .int .i64 (i : Int) ∧ wr.rowIs b_t1 63 4 (cF .u32 (wd A)) ∧ wr.rowIs b_t2 63 4 (cF .u32 fun _ => 0) ∧ wr.rowIs b_t3 63 4 (cF .u32 (upN G (fun _ => 0) i)) ∧ Below w.heap.size w wr) (fun iv _ => 4 - (intOf iv).toNat)
  case atStart => exact ⟨0, by decide, rfl, r_t1, r_t2, by rw [upN_zero]; exact r_t3, Bw3⟩
  case round =>
    clear r_t1 r_t2 r_t3 Bw3
    obtain ⟨i, hi, rfl, r_t1, r_t2, r_t3, Bw0⟩ := hrel
    by_cases hlt : i < 4
    · have hiI : 0 ≤ (i : Int) ∧ (i : Int) < 4 := by omega
      have HI := Lib.hid hlt
      replace r_t1 := r_t1.drew
      replace r_t2 := r_t2.drew
      replace r_t3 := r_t3.drew
      replace Bw0 := Bw0.drew
      obtain ⟨x0, hx0⟩ := nat_var (wd A i)
      have c0 := cF_cell r_t1 i hlt (x := x0) hx0.symm
      obtain ⟨j1, hj1⟩ := nat_var (i + 1)
      obtain ⟨k1, hk1⟩ := nat_var (j1 % 4)
      have u1 : IntKind.i64.wrap ((i : Int) + 1) = (j1 : Int) := by rw [IntWalk.i64_in _ (by omega)]; omega
      have v1 : (j1 : Int).tmod 4 = (k1 : Int) := by rw [Int.tmod_eq_emod_of_nonneg (by omega)]; omega
      have p1 : IntKind.i64.wrap ((j1 : Int).tmod 4) = (k1 : Int) := by rw [v1, IntWalk.i64_in _ (by omega)]
      have q1 : 0 ≤ (k1 : Int) ∧ (k1 : Int) < 4 := by omega
      obtain ⟨x1, hx1⟩ := nat_var (wd A k1)
      have c1 := cF_cell r_t1 k1 (by omega) (x := x1) hx1.symm
      obtain ⟨j2, hj2⟩ := nat_var (i + 2)
      obtain ⟨k2, hk2⟩ := nat_var (j2 % 4)
      have u2 : IntKind.i64.wrap ((i : Int) + 2) = (j2 : Int) := by rw [IntWalk.i64_in _ (by omega)]; omega
      have v2 : (j2 : Int).tmod 4 = (k2 : Int) := by rw [Int.tmod_eq_emod_of_nonneg (by omega)]; omega
      have p2 : IntKind.i64.wrap ((j2 : Int).tmod 4) = (k2 : Int) := by rw [v2, IntWalk.i64_in _ (by omega)]
      have q2 : 0 ≤ (k2 : Int) ∧ (k2 : Int) < 4 := by omega
      obtain ⟨x2, hx2⟩ := nat_var (wd A k2)
      have c2 := cF_cell r_t1 k2 (by omega) (x := x2) hx2.symm
      obtain ⟨j3, hj3⟩ := nat_var (i + 3)
      obtain ⟨k3, hk3⟩ := nat_var (j3 % 4)
      have u3 : IntKind.i64.wrap ((i : Int) + 3) = (j3 : Int) := by rw [IntWalk.i64_in _ (by omega)]; omega
      have v3 : (j3 : Int).tmod 4 = (k3 : Int) := by rw [Int.tmod_eq_emod_of_nonneg (by omega)]; omega
      have p3 : IntKind.i64.wrap ((j3 : Int).tmod 4) = (k3 : Int) := by rw [v3, IntWalk.i64_in _ (by omega)]
      have q3 : 0 ≤ (k3 : Int) ∧ (k3 : Int) < 4 := by omega
      obtain ⟨x3, hx3⟩ := nat_var (wd A k3)
      have c3 := cF_cell r_t1 k3 (by omega) (x := x3) hx3.symm
      have hA := HA.out
      obtain ⟨y0, hy0⟩ := nat_var (w4 (A (4 * i)) 0 0 0)
      obtain ⟨y1, hy1⟩ := nat_var (w4 0 (A (4 * k1 + 1)) 0 0)
      obtain ⟨y2, hy2⟩ := nat_var (w4 0 0 (A (4 * k2 + 2)) 0)
      obtain ⟨y3, hy3⟩ := nat_var (w4 0 0 0 (A (4 * k3 + 3)))
      obtain ⟨z1, hz1⟩ := nat_var (w4 (A (4 * i)) (A (4 * k1 + 1)) 0 0)
      obtain ⟨z2, hz2⟩ := nat_var (w4 (A (4 * i)) (A (4 * k1 + 1)) (A (4 * k2 + 2)) 0)
      obtain ⟨z3, hz3⟩ := nat_var (w4 (A (4 * i)) (A (4 * k1 + 1)) (A (4 * k2 + 2)) (A (4 * k3 + 3)))
      have OR := w4_or0 (hA (4 * i)) (hA (4 * k1 + 1)) (hA (4 * k2 + 2)) (hA (4 * k3 + 3))
      have o0 : (0 : Nat) < 256 := by decide
      have m0 : bits .and .u32 (x0 : Int) 4278190080 = (y0 : Int) := (bits_and32 x0 4278190080 (by rw [hx0]; exact wd_lt hA _) (by decide)).trans (by rw [hx0, hy0]; unfold wd; rw [(w4_masks (hA _) (hA _) (hA _) (hA _)).1])
      have m1 : bits .and .u32 (x1 : Int) 16711680 = (y1 : Int) := (bits_and32 x1 16711680 (by rw [hx1]; exact wd_lt hA _) (by decide)).trans (by rw [hx1, hy1]; unfold wd; rw [(w4_masks (hA _) (hA _) (hA _) (hA _)).2.1])
      have m2 : bits .and .u32 (x2 : Int) 65280 = (y2 : Int) := (bits_and32 x2 65280 (by rw [hx2]; exact wd_lt hA _) (by decide)).trans (by rw [hx2, hy2]; unfold wd; rw [(w4_masks (hA _) (hA _) (hA _) (hA _)).2.2.1])
      have m3 : bits .and .u32 (x3 : Int) 255 = (y3 : Int) := (bits_and32 x3 255 (by rw [hx3]; exact wd_lt hA _) (by decide)).trans (by rw [hx3, hy3]; unfold wd; rw [(w4_masks (hA _) (hA _) (hA _) (hA _)).2.2.2])
      have n1 : bits .or .u32 (y0 : Int) (y1 : Int) = (z1 : Int) := by rw [bits_or32 y0 y1 (by rw [hy0]; exact w4_lt (hA _) o0 o0 o0) (by rw [hy1]; exact w4_lt o0 (hA _) o0 o0), hy0, hy1, OR.1, hz1]
      have n2 : bits .or .u32 (z1 : Int) (y2 : Int) = (z2 : Int) := by rw [bits_or32 z1 y2 (by rw [hz1]; exact w4_lt (hA _) (hA _) o0 o0) (by rw [hy2]; exact w4_lt o0 o0 (hA _) o0), hz1, hy2, OR.2.1, hz2]
      have n3 : bits .or .u32 (z2 : Int) (y3 : Int) = (z3 : Int) := by rw [bits_or32 z2 y3 (by rw [hz2]; exact w4_lt (hA _) (hA _) (hA _) o0) (by rw [hy3]; exact w4_lt o0 o0 o0 (hA _)), hz2, hy3, OR.2.2, hz3]
      have HZ : Hid (G i = z3) := Lib.hid (by
        rw [HG.out, hz3]
        unfold wd
        refine w4_ext ?_ ?_ ?_ ?_
        · have h := shR_at A i 0 (by decide)
          rw [Nat.add_zero, Nat.add_zero, Nat.add_zero, Nat.mod_eq_of_lt hlt] at h
          exact h
        · rw [shR_at A i 1 (by decide), hk1, hj1]
        · rw [shR_at A i 2 (by decide), hk2, hj2]
        · rw [shR_at A i 3 (by decide), hk3, hj3])
      clear hx0 hx1 hx2 hx3 hy0 hy1 hy2 hy3 hz1 hz2 hz3 hj1 hj2 hj3 hk1 hk2 hk3 hA OR o0 hi hlt
      go_wp2
      refine ea_start [(0, some [27]), (1, some [27]), (2, some [27]), (3, some [27]), (4, some [27]), (5, some [27]), (6, some [27]), (7, some [27]), (8, some [27]), (9, some [27]), (10, some [27]), (11, some [27]), (12, some [27]), (13, some [27]), (14, some [27]), (15, some [27]), (16, some [27]), (17, some [27]), (18, some [27]), (19, some [27]), (20, some [27]), (21, some [27]), (22, some [27]), (23, some [27]), (24, some [27]), (25, some [27]), (26, some [27]), (27, none)] (by kernel_rfl) (by kernel_rfl) (by decide) (by kernel_rfl) (fun d _ _ _ _ h => by cases d <;> exact h) ?_
      refine ea_rd 8 (.int .i64 (i : Int)) rfl rfl rfl rfl rfl (by unfold mkOp; go_simp; all_goals (with_reducible rfl)) ?_
      simp only [Act.put, zA, zB, zC]
      refine ea_rd 9 (.int .i64 (i : Int)) rfl rfl rfl rfl rfl (by unfold mkOp; go_simp; all_goals (with_reducible rfl)) ?_
      simp only [Act.put, zA, zB, zC]
      refine ea_rd 10 (.pointer (some ⟨b_t1, i, none⟩)) rfl rfl rfl rfl rfl (by unfold mkOp; go_simp; all_goals (with_reducible rfl)) ?_
      simp only [Act.put, zA, zB, zC]
      refine ea_rd 11 (.int .u32 (x0 : Int)) rfl rfl rfl rfl rfl (by have c9 := c0; unfold mkOp; go_simp; all_goals (with_reducible rfl)) ?_
      simp only [Act.put, zA, zB, zC]
      refine ea_rd 12 (.int .u32 (y0 : Int)) rfl rfl rfl rfl rfl (by unfold mkOp; go_simp; all_goals (with_reducible rfl)) ?_
      simp only [Act.put, zA, zB, zC]
      refine ea_rd 13 (.int .i64 (i : Int)) rfl rfl rfl rfl rfl (by unfold mkOp; go_simp; all_goals (with_reducible rfl)) ?_
      simp only [Act.put, zA, zB, zC]
      refine ea_rd 14 (.int .i64 (j1 : Int)) rfl rfl rfl rfl rfl (by unfold mkOp; go_simp; all_goals (with_reducible rfl)) ?_
      simp only [Act.put, zA, zB, zC]
      refine ea_rd 15 (.int .i64 (k1 : Int)) rfl rfl rfl rfl rfl (by unfold mkOp; go_simp; all_goals (with_reducible rfl)) ?_
      simp only [Act.put, zA, zB, zC]
      refine ea_rd 16 (.pointer (some ⟨b_t1, k1, none⟩)) rfl rfl rfl rfl rfl (by unfold mkOp; go_simp; all_goals (with_reducible rfl)) ?_
      simp only [Act.put, zA, zB, zC]
      refine ea_rd 17 (.int .u32 (x1 : Int)) rfl rfl rfl rfl rfl (by have c9 := c1; unfold mkOp; go_simp; all_goals (with_reducible rfl)) ?_
      simp only [Act.put, zA, zB, zC]
      refine ea_rd 18 (.int .u32 (y1 : Int)) rfl rfl rfl rfl rfl (by unfold mkOp; go_simp; all_goals (with_reducible rfl)) ?_
      simp only [Act.put, zA, zB, zC]
      refine ea_rd 19 (.int .u32 (z1 : Int)) rfl rfl rfl rfl rfl (by unfold mkOp; go_simp; all_goals (with_reducible rfl)) ?_
      simp only [Act.put, zA, zB, zC]
      refine ea_rd 20 (.int .i64 (i : Int)) rfl rfl rfl rfl rfl (by unfold mkOp; go_simp; all_goals (with_reducible rfl)) ?_
      simp only [Act.put, zA, zB, zC]
      refine ea_rd 21 (.int .i64 (j2 : Int)) rfl rfl rfl rfl rfl (by unfold mkOp; go_simp; all_goals (with_reducible rfl)) ?_
      simp only [Act.put, zA, zB, zC]
      refine ea_rd 22 (.int .i64 (k2 : Int)) rfl rfl rfl rfl rfl (by unfold mkOp; go_simp; all_goals (with_reducible rfl)) ?_
      simp only [Act.put, zA, zB, zC]
      refine ea_rd 23 (.pointer (some ⟨b_t1, k2, none⟩)) rfl rfl rfl rfl rfl (by unfold mkOp; go_simp; all_goals (with_reducible rfl)) ?_
      simp only [Act.put, zA, zB, zC]
      refine ea_rd 24 (.int .u32 (x2 : Int)) rfl rfl rfl rfl rfl (by have c9 := c2; unfold mkOp; go_simp; all_goals (with_reducible rfl)) ?_
      simp only [Act.put, zA, zB, zC]
      refine ea_rd 25 (.int .u32 (y2 : Int)) rfl rfl rfl rfl rfl (by unfold mkOp; go_simp; all_goals (with_reducible rfl)) ?_
      simp only [Act.put, zA, zB, zC]
      refine ea_rd 26 (.int .u32 (z2 : Int)) rfl rfl rfl rfl rfl (by unfold mkOp; go_simp; all_goals (with_reducible rfl)) ?_
      simp only [Act.put, zA, zB, zC]
      refine ea_rd 27 (.int .i64 (i : Int)) rfl rfl rfl rfl rfl (by unfold mkOp; go_simp; all_goals (with_reducible rfl)) ?_
      simp only [Act.put, zA, zB, zC]
      refine ea_rd 28 (.int .i64 (j3 : Int)) rfl rfl rfl rfl rfl (by unfold mkOp; go_simp; all_goals (with_reducible rfl)) ?_
      simp only [Act.put, zA, zB, zC]
      refine ea_rd 29 (.int .i64 (k3 : Int)) rfl rfl rfl rfl rfl (by unfold mkOp; go_simp; all_goals (with_reducible rfl)) ?_
      simp only [Act.put, zA, zB, zC]
      refine ea_rd 30 (.pointer (some ⟨b_t1, k3, none⟩)) rfl rfl rfl rfl rfl (by unfold mkOp; go_simp; all_goals (with_reducible rfl)) ?_
      simp only [Act.put, zA, zB, zC]
      refine ea_rd 31 (.int .u32 (x3 : Int)) rfl rfl rfl rfl rfl (by have c9 := c3; unfold mkOp; go_simp; all_goals (with_reducible rfl)) ?_
      simp only [Act.put, zA, zB, zC]
      refine ea_rd 32 (.int .u32 (y3 : Int)) rfl rfl rfl rfl rfl (by unfold mkOp; go_simp; all_goals (with_reducible rfl)) ?_
      simp only [Act.put, zA, zB, zC]
      refine ea_rd 33 (.int .u32 (z3 : Int)) rfl rfl rfl rfl rfl (by unfold mkOp; go_simp; all_goals (with_reducible rfl)) ?_
      simp only [Act.put, zA, zB, zC]
      refine ea_rd 34 (.pointer (some ⟨b_t3, i, none⟩)) rfl rfl rfl rfl rfl (by unfold mkOp; go_simp; all_goals (with_reducible rfl)) ?_
      simp only [Act.put, zA, zB, zC]
      refine ea_storeC (upN G (fun _ => 0) (i + 1)) rfl rfl rfl rfl rfl rfl r_t3 HI.out rfl rfl (by kernel_rfl) (upN_stepC _ _ i z3 4 HZ.out) ?_
      intro w7 q7 g7
      refine le_end ?_
      replace r_t1 := gb_rowIs r_t1 g7 n_t1_t3
      replace r_t2 := gb_rowIs r_t2 g7 n_t2_t3
      have Bw1 := zbg HGS Bw0 g7 l_t3
      clear Bw0 g7 r_t3 c0 c1 c2 c3 m0 m1 m2 m3 n1 n2 n3 q1 q2 q3 p1 p2 p3 v1 v2 v3 u1 u2 u3
      go_wp2
      go_roundw
      case rel => exact ⟨i + 1, HI.out, by have := HI.out; go_num, r_t1, r_t2, q7, Bw1⟩
      case measure => (have := HI.out; simp [intOf]; try omega)
    · obtain rfl : i = 4 := by omega
      replace r_t3 := cF_all r_t3
      clear hi hlt
      go_wp2_with (first
        | (have hgo := Bw0; clear hgo
           refine wpList_load_as rfl 63 (.tmp 3) rfl 4 (cF .u32 G) arrSt r_t3 rfl (by omega) (fun i hi => by rw [Nat.zero_add]) ?_
           have Bw1 := Bw0
           clear Bw0)
        | (have hgo := Bw1; clear hgo
           refine wpList_store_as rfl 63 (.tmp 2) (.tmp 36) rfl 4 (cF .u32 G) arrSt r_t2 rfl rfl (by omega) (fun _ _ => rfl) (fun i hi => putN_whole hi) ?_
           intro w1 q gk
           replace r_t1 := gb_rowIs r_t1 gk n_t1_t2
           replace r_t3 := gb_rowIs r_t3 gk (Ne.symm n_t2_t3)
           replace r_t2 := q
           have Bw2 := zbg HGS Bw1 gk l_t2
           clear Bw1 gk q))
      exact ret_cell_as _ rfl arrSt r_t2 rfl (by omega) (fun _ _ => rfl) rfl ⟨rfl, Bw2⟩
set_option maxHeartbeats 4000000 in
set_option maxRecDepth 20000 in
theorem mix_any (A : Nat → Nat) (w : World) (hA : ∀ j, A j < 256) : Calls Try.prog 36 #[.agg (arrOf 4 (cF .u32 (wd A)))] w fun e w' => e = .returned (.agg (arrOf 4 (cF .u32 (wd (mixN A))))) ∧ Below w.heap.size w w' := by
  have Bw0 := Below.refl w.heap.size w
  have HGS : Hid (∀ wq : World, Below w.heap.size w wq → w.heap.size ≤ wq.heap.size) := Lib.hid fun wq h => h.size
  have HA := Lib.hid hA
  obtain ⟨G, hG⟩ : ∃ G, G = wd (mixN A) := ⟨_, rfl⟩
  rw [← hG]
  have HG := Lib.hid hG
  clear hA hG
  go_enter Try.func36, Try.ntmps36
  go_wp2_with (first
    | (have hgo := Bw0; clear hgo
       refine wpList_box_row rfl 63 (.tmp 0) rfl 4 (cF .u32 (wd A)) rfl ?_
       intro b_t1 w1 lk r_t1 kk
       have l_t1 := zrl HGS Bw0 lk
       have Bw1 := zbt HGS Bw0 kk
       clear Bw0 kk lk)
    | (have hgo := Bw1; clear hgo
       refine wpList_alloc_row rfl 63 rfl 4 (cF .u32 fun _ => 0) zeroSt ?_
       intro b_t2 w2 lk r_t2 kk
       have n_t1_t2 := zrn r_t1 lk
       have l_t2 := zrl HGS Bw1 lk
       replace r_t1 := zrb r_t1 kk
       have Bw2 := zbt HGS Bw1 kk
       clear Bw1 kk lk)
    | (have hgo := Bw2; clear hgo
       refine wpList_load_as rfl 63 (.tmp 1) rfl 4 (cF .u32 (wd A)) arrSt r_t1 rfl (by omega) (fun i hi => by rw [Nat.zero_add]) ?_
       have Bw3 := Bw2
       clear Bw2))
  go_loopw [7] (fun iv wr => ∃ i : Nat, i ≤ 4 ∧ iv = .int .i64 (i : Int) ∧ wr.rowIs b_t1 63 4 (cF .u32 (upN G (wd A) i)) ∧ wr.rowIs b_t2 63 4 (cF .u32 fun _ => 0) ∧ Below w.heap.size w wr) (fun iv _ => 4 - (intOf iv).toNat)
  case atStart => exact ⟨0, by decide, rfl, by rw [upN_zero]; exact r_t1, r_t2, Bw3⟩
  case round =>
    clear r_t1 r_t2 Bw3
    obtain ⟨i, hi, rfl, r_t1, r_t2, Bw0⟩ := hrel
    by_cases hlt : i < 4
    · have hiI : 0 ≤ (i : Int) ∧ (i : Int) < 4 := by omega
      have HI := Lib.hid hlt
      have hA := HA.out
      obtain ⟨a0, ha0⟩ := nat_var (A (4 * i))
      obtain ⟨a1, ha1⟩ := nat_var (A (4 * i + 1))
      obtain ⟨a2, ha2⟩ := nat_var (A (4 * i + 2))
      obtain ⟨a3, ha3⟩ := nat_var (A (4 * i + 3))
      have l0 : a0 < 256 := by rw [ha0]; exact hA _
      have l1 : a1 < 256 := by rw [ha1]; exact hA _
      have l2 : a2 < 256 := by rw [ha2]; exact hA _
      have l3 : a3 < 256 := by rw [ha3]; exact hA _
      obtain ⟨x, hx⟩ := nat_var (w4 a0 a1 a2 a3)
      obtain ⟨y, hy⟩ := nat_var (w4 a1 a2 a3 a0)
      obtain ⟨u, hu⟩ := nat_var (w4 (a0 ^^^ a1) (a1 ^^^ a2) (a2 ^^^ a3) (a3 ^^^ a0))
      obtain ⟨v, hv⟩ := nat_var (w4 (xtN (a0 ^^^ a1)) (xtN (a1 ^^^ a2)) (xtN (a2 ^^^ a3)) (xtN (a3 ^^^ a0)))
      obtain ⟨v2, hv2⟩ := nat_var (v ^^^ y)
      obtain ⟨s, hs⟩ := nat_var (w4 a2 a3 a0 a1)
      obtain ⟨v3, hv3⟩ := nat_var (v2 ^^^ s)
      obtain ⟨t, ht⟩ := nat_var (w4 a3 a0 a1 a2)
      obtain ⟨v4, hv4⟩ := nat_var (v3 ^^^ t)
      have HX : Hid (wd A i = x) := Lib.hid (by rw [hx, ha0, ha1, ha2, ha3]; rfl)
      have R1 : Hid (∀ w1, Calls Try.prog 33 #[.int .u32 (x : Int), .int .i64 8] w1 fun e w' => e = .returned (.int .u32 (y : Int)) ∧ w' = w1) := Lib.hid fun w1 => by rw [hx, hy]; exact rotw_8 a0 a1 a2 a3 w1 l0 l1 l2 l3
      have R2 : Hid (∀ w1, Calls Try.prog 33 #[.int .u32 (x : Int), .int .i64 16] w1 fun e w' => e = .returned (.int .u32 (s : Int)) ∧ w' = w1) := Lib.hid fun w1 => by rw [hx, hs]; exact rotw_16 a0 a1 a2 a3 w1 l0 l1 l2 l3
      have R3 : Hid (∀ w1, Calls Try.prog 33 #[.int .u32 (x : Int), .int .i64 24] w1 fun e w' => e = .returned (.int .u32 (t : Int)) ∧ w' = w1) := Lib.hid fun w1 => by rw [hx, ht]; exact rotw_24 a0 a1 a2 a3 w1 l0 l1 l2 l3
      have RD : Hid (∀ w1, Calls Try.prog 44 #[.int .u32 (u : Int)] w1 fun e w' => e = .returned (.int .u32 (v : Int)) ∧ w' = w1) := Lib.hid fun w1 => by rw [hu, hv]; exact doubled_any _ _ _ _ w1 (xor_lt8 l0 l1) (xor_lt8 l1 l2) (xor_lt8 l2 l3) (xor_lt8 l3 l0)
      have X0 : x < 4294967296 := by rw [hx]; exact w4_lt l0 l1 l2 l3
      have X1 : y < 4294967296 := by rw [hy]; exact w4_lt l1 l2 l3 l0
      have X2 : v < 4294967296 := by rw [hv]; exact w4_lt (xtN_lt _) (xtN_lt _) (xtN_lt _) (xtN_lt _)
      have X3 : s < 4294967296 := by rw [hs]; exact w4_lt l2 l3 l0 l1
      have X4 : t < 4294967296 := by rw [ht]; exact w4_lt l3 l0 l1 l2
      have E2 : v2 = w4 (xtN (a0 ^^^ a1) ^^^ a1) (xtN (a1 ^^^ a2) ^^^ a2) (xtN (a2 ^^^ a3) ^^^ a3) (xtN (a3 ^^^ a0) ^^^ a0) := by rw [hv2, hv, hy, w4_xor (xtN_lt _) (xtN_lt _) (xtN_lt _) l2 l3 l0]
      have X5 : v2 < 4294967296 := by rw [E2]; exact w4_lt (xor_lt8 (xtN_lt _) l1) (xor_lt8 (xtN_lt _) l2) (xor_lt8 (xtN_lt _) l3) (xor_lt8 (xtN_lt _) l0)
      have E3 : v3 = w4 (xtN (a0 ^^^ a1) ^^^ a1 ^^^ a2) (xtN (a1 ^^^ a2) ^^^ a2 ^^^ a3) (xtN (a2 ^^^ a3) ^^^ a3 ^^^ a0) (xtN (a3 ^^^ a0) ^^^ a0 ^^^ a1) := by rw [hv3, E2, hs, w4_xor (xor_lt8 (xtN_lt _) l2) (xor_lt8 (xtN_lt _) l3) (xor_lt8 (xtN_lt _) l0) l3 l0 l1]
      have X6 : v3 < 4294967296 := by rw [E3]; exact w4_lt (xor_lt8 (xor_lt8 (xtN_lt _) l1) l2) (xor_lt8 (xor_lt8 (xtN_lt _) l2) l3) (xor_lt8 (xor_lt8 (xtN_lt _) l3) l0) (xor_lt8 (xor_lt8 (xtN_lt _) l0) l1)
      have e1 : bits .xor .u32 (x : Int) (y : Int) = (u : Int) := by rw [bits_xor32 x y X0 X1, hx, hy, hu, w4_xor l1 l2 l3 l2 l3 l0]
      have e2 : bits .xor .u32 (v : Int) (y : Int) = (v2 : Int) := by rw [bits_xor32 v y X2 X1, hv2]
      have e3 : bits .xor .u32 (v2 : Int) (s : Int) = (v3 : Int) := by rw [bits_xor32 v2 s X5 X3, hv3]
      have e4 : bits .xor .u32 (v3 : Int) (t : Int) = (v4 : Int) := by rw [bits_xor32 v3 t X6 X4, hv4]
      have HZ : Hid (G i = v4) := Lib.hid (by
        rw [HG.out, hv4, E3, ht, w4_xor (xor_lt8 (xor_lt8 (xtN_lt _) l2) l3) (xor_lt8 (xor_lt8 (xtN_lt _) l3) l0) (xor_lt8 (xor_lt8 (xtN_lt _) l0) l1) l0 l1 l2]
        have M0 := mixN_at A hA i 0 (by decide)
        have M1 := mixN_at A hA i 1 (by decide)
        have M2 := mixN_at A hA i 2 (by decide)
        have M3 := mixN_at A hA i 3 (by decide)
        simp only [Nat.reduceAdd, Nat.reduceMod, Nat.add_zero, ← ha0, ← ha1, ← ha2, ← ha3] at M0 M1 M2 M3
        unfold wd
        exact w4_ext M0 M1 M2 M3)
      clear ha0 ha1 ha2 ha3 l0 l1 l2 l3 hx hy hu hv hv2 hs hv3 ht hv4 hA X0 X1 X2 X3 X4 X5 X6 E2 E3 hi hlt
      go_wp2_with (first
        | (have hgo := HX; clear hgo
           refine wpList_index_c rfl 63 53 (.tmp 6) (.tmp 7) rfl 4 (by kernel_rfl) _ rfl rfl (by kernel_rfl) rfl rfl HI.out HX.out ?_
           clear HX)
        | (have hgo := R1; clear hgo
           go_at_call 33
           refine (R1.out _).mono ?_
           rintro e w1 ⟨rfl, rfl⟩
           clear R1)
        | (have hgo := RD; clear hgo
           go_at_call 44
           refine (RD.out _).mono ?_
           rintro e w2 ⟨rfl, rfl⟩
           clear RD)
        | (have hgo := R2; clear hgo
           go_at_call 33
           refine (R2.out _).mono ?_
           rintro e w3 ⟨rfl, rfl⟩
           clear R2)
        | (have hgo := R3; clear hgo
           go_at_call 33
           refine (R3.out _).mono ?_
           rintro e w4 ⟨rfl, rfl⟩
           clear R3)
        | (have hgo := Bw0; clear hgo
           refine wpList_store_c rfl 53 (.tmp 26) (.tmp 25) rfl (upN G (wd A) (i + 1)) r_t1 HI.out rfl rfl (by kernel_rfl) (upN_stepC _ _ i v4 4 HZ.out) ?_
           intro w5 q gk
           replace r_t2 := gb_rowIs r_t2 gk (Ne.symm n_t1_t2)
           replace r_t1 := q
           have Bw1 := zbg HGS Bw0 gk l_t1
           clear Bw0 gk q))
      go_roundw
      case rel => exact ⟨i + 1, HI.out, by have := HI.out; go_num, r_t1, r_t2, Bw1⟩
      case measure => (have := HI.out; simp [intOf]; try omega)
    · obtain rfl : i = 4 := by omega
      replace r_t1 := cF_all r_t1
      clear hi hlt
      go_wp2_with (first
        | (have hgo := Bw0; clear hgo
           refine wpList_load_as rfl 63 (.tmp 1) rfl 4 (cF .u32 G) arrSt r_t1 rfl (by omega) (fun i hi => by rw [Nat.zero_add]) ?_
           have Bw1 := Bw0
           clear Bw0)
        | (have hgo := Bw1; clear hgo
           refine wpList_store_as rfl 63 (.tmp 2) (.tmp 28) rfl 4 (cF .u32 G) arrSt r_t2 rfl rfl (by omega) (fun _ _ => rfl) (fun i hi => putN_whole hi) ?_
           intro w1 q gk
           replace r_t1 := gb_rowIs r_t1 gk n_t1_t2
           replace r_t2 := q
           have Bw2 := zbg HGS Bw1 gk l_t2
           clear Bw1 gk q))
      exact ret_cell_as _ rfl arrSt r_t2 rfl (by omega) (fun _ _ => rfl) rfl ⟨rfl, Bw2⟩
end Go.Proofs.Ytiapkfeamochfaa

/- The program's AES: a key made ready. -/
namespace Go.Proofs.Ytiapkfeamochfaa
open Go.RowKit Go.Deep
set_option linter.unusedSimpArgs false
set_option linter.unusedVariables false

/-- The cells of a cipher: the box, the words. -/
def ciF (X W : Nat → Nat) (j : Nat) : Value := if j < 256 then .int .u8 ((X j : Nat) : Int) else .int .u32 ((W (j - 256) : Nat) : Int)
theorem ci_box (X W : Nat → Nat) (j : Nat) (h : j < 256) : ciF X W j = .int .u8 ((X j : Nat) : Int) := if_pos h
theorem ci_word (X W : Nat → Nat) (j : Nat) : ciF X W (256 + j) = .int .u32 ((W j : Nat) : Int) := by
  unfold ciF
  rw [if_neg (by omega), Nat.add_sub_cancel_left]
theorem ci_congr {w : World} {b : Nat} {t : TypeId} {X V W : Nat → Nat} (h : w.rowIs b t 316 (ciF X V)) (e : ∀ j, j < 60 → V j = W j) : w.rowIs b t 316 (ciF X W) := h.congr fun j hj => by
  unfold ciF
  by_cases h1 : j < 256
  · rw [if_pos h1, if_pos h1]
  · rw [if_neg h1, if_neg h1, e _ (by omega)]
theorem ci_set {w : World} {b : Nat} {t : TypeId} {X W G : Nat → Nat} (h : w.rowIs b t 316 (ciF X W)) (i z : Nat) (hg : ∀ j, j < 60 → G j = if j = i then z else W j) : (w.setCell ⟨b, 256 + i, none⟩ (.int .u32 (z : Int))).rowIs b t 316 (ciF X G) :=
  (h.set (256 + i) _).congr fun j hj => by
    show (if j = 256 + i then _ else _) = _
    unfold ciF
    by_cases h1 : j < 256
    · rw [if_pos h1, if_pos h1, if_neg (by omega)]
    · rw [if_neg h1, if_neg h1, hg _ (by omega)]
      by_cases h2 : j = 256 + i
      · rw [if_pos h2, if_pos (by omega)]
      · rw [if_neg h2, if_neg (by omega)]
theorem ea_storeW {P : Program} {ops : Array Oper} {Q : Exit → Act → World → Prop} {r : List (Nat × Option (List Nat))} {a : Act} {w : World} {o : Oper} {i : Nat} {R : Nat → World → Prop} {ty : TypeId} {x y : Operand} {t t' : TypeId} {b j z : Nat} {X W : Nat → Nat} (G : Nat → Nat) (hr : writers r = []) (ho : ops[i]? = some o) (hd : o.dst = none) (hop : o.op = .store ty x y) (ht : o.type = t) (hw : Region.wanted o (yielded ops a.tmps) = true)
    (hrow : w.rowIs b t' 316 (ciF X W)) (hi : j < 60) (hx : a.eval x = .pointer (some ⟨b, 256 + j, none⟩)) (hy : a.eval y = .int .u32 (z : Int)) (hs : (P.info? ty).map (fun i => i.size) = some 1) (hg : ∀ k, k < 60 → G k = if k = j then z else W k)
    (h : ∀ w', w'.rowIs b t' 316 (ciF X G) → w.grownBy w' (some b) → LinS P ops Q r Any a w') : LinS P ops Q ((i, none) :: r) R a w :=
  lins_store _ t _ ho hd hop ht hw (exec_store_cell (P := P) a.eval ty x y t hrow hx hy hs rfl rfl (by omega)) Any (fun c hc => by rw [hr] at hc; cases hc) (h _ (ci_set hrow j z hg) (grownBy_set _ _ _ _))
theorem wpList_load_w {P : Program} {ops : Array Oper} {rest : List Oper} {o : Oper} {a : Act} {w : World} {Q : Exit → Act → World → Prop} (hgd : o.guard = none) (ty : TypeId) (x : Operand) (ho : o.op = .load ty x) {b i z : Nat} {t : TypeId} {X W : Nat → Nat} (hr : w.rowIs b t 316 (ciF X W)) (hi : i < 60)
    (hx : a.eval x = .pointer (some ⟨b, 256 + i, none⟩)) (hu : (P.underlying ty).map (fun d => match d with | .struct _ | .array _ _ => true | _ => false) = some false) (hz : W i = z) (h : wpList P ops Q rest (a.put o.dst (.int .u32 (z : Int))) w) : wpList P ops Q (o :: rest) a w := by
  subst hz
  refine wpList_value hgd _ ?_ h
  rw [exec_mkOp, ho]
  exact exec_load_cell a.eval ty x o.type hx hu (by rw [← ci_word X W i]; exact hr.cell (by omega))
theorem partsCi : bparts Try.prog 57 = some (arrOf 316 (ciF (fun _ => 0) (fun _ => 0)), [(0, 256), (256, 60)]) := by kernel_rfl
theorem builtCi (X : Nat → Nat) : Try.prog.built 57 [(0, .agg (arrOf 256 (cF .u8 X)))] = some (arrOf 316 (ciF X (fun _ => 0))) := by
  rw [built_of partsCi, fill_row (off := 0) (k := 256) rfl (by decide), Instr.fill]
  refine congrArg some (arrOf_congr fun i hi => ?_)
  unfold putN ciF
  by_cases h : i < 256
  · rw [if_pos (by omega), if_pos h, Nat.sub_zero]
    rfl
  · rw [if_neg (by omega), if_neg h, if_neg h]
theorem numB_wd (l : List UInt8) (i : Nat) : numB (l.drop (4 * i)) 4 = wd (nB l) i := by
  have e : ∀ r, byteAt (l.drop (4 * i)) r = nB l (4 * i + r) := fun r => by
    unfold byteAt nB
    rw [List.getD_eq_getElem?_getD, List.getD_eq_getElem?_getD, List.getElem?_drop]
  have e0 := e 0
  rw [Nat.add_zero] at e0
  show (((0 * 256 + byteAt (l.drop (4 * i)) 0) * 256 + byteAt (l.drop (4 * i)) 1) * 256 + byteAt (l.drop (4 * i)) 2) * 256 + byteAt (l.drop (4 * i)) 3 = _
  rw [e0, e 1, e 2, e 3]
  unfold wd w4
  omega
theorem nB_out (l : List UInt8) (j : Nat) (h : l.length ≤ j) : nB l j = 0 := by
  unfold nB
  rw [List.getD_eq_getElem?_getD, List.getElem?_eq_none h]
  rfl
theorem nB_left (l m : List UInt8) (j : Nat) (h : j < l.length) : nB (l ++ m) j = nB l j := by
  unfold nB
  rw [getD_left l m j h]
theorem nB_right (l m : List UInt8) (j : Nat) : nB (l ++ m) (l.length + j) = nB m j := by
  unfold nB
  rw [List.getD_eq_getElem?_getD, List.getD_eq_getElem?_getD, List.getElem?_append_right (by omega), Nat.add_sub_cancel_left]
theorem wd_out (l : List UInt8) (j : Nat) (h : l.length ≤ 4 * j) : wd (nB l) j = 0 := by
  unfold wd
  rw [nB_out l _ h, nB_out l _ (by omega), nB_out l _ (by omega), nB_out l _ (by omega)]
  rfl
/-- One word more. -/
theorem wd_app (W x : List UInt8) (i : Nat) (hW : W.length = 4 * i) (hx : x.length = 4) (j : Nat) : wd (nB (W ++ x)) j = if j = i then wd (nB x) 0 else wd (nB W) j := by
  by_cases e : j = i
  · subst e
    rw [if_pos rfl]
    unfold wd
    have h0 := nB_right W x 0
    rw [Nat.add_zero, hW] at h0
    rw [h0, ← hW, nB_right W x 1, nB_right W x 2, nB_right W x 3]
  · rw [if_neg e]
    by_cases h : j < i
    · unfold wd
      rw [nB_left W x _ (by omega), nB_left W x _ (by omega), nB_left W x _ (by omega), nB_left W x _ (by omega)]
    · rw [wd_out W j (by omega), wd_out (W ++ x) j (by rw [List.length_append]; omega)]
theorem nW4 (W x : List UInt8) (i : Nat) : nW W x i 4 = [W.getD (4 * i - 32) 0 ^^^ x.getD 0 0, W.getD (4 * i - 32 + 1) 0 ^^^ x.getD 1 0, W.getD (4 * i - 32 + 2) 0 ^^^ x.getD 2 0, W.getD (4 * i - 32 + 3) 0 ^^^ x.getD 3 0] := by simp only [nW, List.nil_append, List.cons_append, Nat.add_zero]
theorem wd_nW (W x : List UInt8) (i : Nat) (hi : 8 ≤ i) : wd (nB (nW W x i 4)) 0 = wd (nB W) (i - 8) ^^^ wd (nB x) 0 := by
  rw [nW4]
  unfold wd
  rw [w4_xor (nB_lt _ _) (nB_lt _ _) (nB_lt _ _) (nB_lt _ _) (nB_lt _ _) (nB_lt _ _), show 4 * (i - 8) = 4 * i - 32 by omega]
  refine w4_ext ?_ ?_ ?_ ?_ <;> exact UInt8.toNat_xor _ _
theorem wd_four (a b c d : UInt8) : wd (nB [a, b, c, d]) 0 = w4 a.toNat b.toNat c.toNat d.toNat := rfl
/-- The last word of those that are there. -/
theorem nB_last (W : List UInt8) (i : Nat) (hW : W.length = 4 * i) (hi : 0 < i) (r : Nat) (hr : r < 4) : nB ((W.take (4 * i)).drop (4 * i - 4)) r = nB W (4 * (i - 1) + r) := by
  rw [show 4 * i = W.length from hW.symm, List.take_length]
  unfold nB
  rw [List.getD_eq_getElem?_getD, List.getD_eq_getElem?_getD, List.getElem?_drop, hW, show 4 * i - 4 + r = 4 * (i - 1) + r by omega]
theorem wd_last (W : List UInt8) (i : Nat) (hW : W.length = 4 * i) (hi : 0 < i) : wd (nB ((W.take (4 * i)).drop (4 * i - 4))) 0 = wd (nB W) (i - 1) := by
  unfold wd
  have h0 := nB_last W i hW hi 0 (by decide)
  have h1 := nB_last W i hW hi 1 (by decide)
  have h2 := nB_last W i hW hi 2 (by decide)
  have h3 := nB_last W i hW hi 3 (by decide)
  simp only [Nat.mul_zero, Nat.zero_add, Nat.add_zero] at h0 h1 h2 h3 ⊢
  rw [h0, h1, h2, h3]
set_option maxHeartbeats 4000000 in
set_option maxRecDepth 20000 in
theorem newCipher_any (v0 : Value) (l0 : List UInt8) (w : World) (h0 : Bs w v0 l0) (hl : l0.length = 32) : Calls Try.prog 22 #[v0] w fun e w' => ∃ b, e = .returned (.pointer (some ⟨b, 0, none⟩)) ∧ w.heap.size ≤ b ∧ w'.rowIs b 57 316 (ciF boxN (wd (nB (schL l0)))) ∧ Below w.heap.size w w' := by
  have Bw0 := Below.refl w.heap.size w
  have HGS : Hid (∀ wq : World, Below w.heap.size w wq → w.heap.size ≤ wq.heap.size) := Lib.hid fun wq h => h.size
  have f_s0 := h0
  have HF0 := Lib.hid h0
  have HL := Lib.hid hl
  clear h0 hl
  go_enter Try.func22, Try.ntmps22
  go_wp2_with (first
    | (have hgo := Bw0; clear hgo
       go_at_call 27
       refine (pboxes_any _).mono ?_
       rintro e w1 ⟨rfl, kk⟩
       have Bw1 := zbt HGS Bw0 kk
       clear Bw0 kk)
    | (have hgo := Bw1; clear hgo
       refine wpList_build_arr rfl 57 #[(0, .tmp 8)] rfl (arrOf 316 (ciF boxN (fun _ => 0))) ?_ ?_
       · simp only [List.map_toArray, List.map_cons, List.map_nil]; exact builtCi boxN
       have Bw2 := Bw1
       clear Bw1)
    | (have hgo := Bw2; clear hgo
       refine wpList_box_row rfl 57 (.tmp 9) rfl 316 (ciF boxN (fun _ => 0)) rfl ?_
       intro b_c w2 lk r_c kk
       have l_c := zrl HGS Bw2 lk
       have Bw3 := zbt HGS Bw2 kk
       clear Bw2 kk lk))
  clear f_s0
  go_loopw [11] (fun iv wr => ∃ i : Nat, i ≤ 8 ∧ iv = .int .i64 (i : Int) ∧ wr.rowIs b_c 57 316 (ciF boxN (upN (wd (nB l0)) (fun _ => 0) i)) ∧ Below w.heap.size w wr) (fun iv _ => 8 - (intOf iv).toNat)
  case atStart => exact ⟨0, by decide, rfl, by rw [upN_zero]; exact r_c, Bw3⟩
  case round =>
    clear r_c Bw3
    obtain ⟨i, hi, rfl, r_c, Bw0⟩ := hrel
    by_cases hlt : i < 8
    · have hiI : 0 ≤ (i : Int) ∧ (i : Int) < 8 := by omega
      have hiJ : (i : Int) < 60 := by omega
      have HI := Lib.hid hlt
      have HIL : Hid (i < 60) := Lib.hid (by omega)
      obtain ⟨m, hm⟩ := nat_var (4 * i)
      have hw1 : IntKind.i64.wrap (4 * (i : Int)) = (m : Int) := by rw [IntWalk.i64_in _ (by omega)]; omega
      obtain ⟨x, hx⟩ := nat_var (numB (l0.drop m) 4)
      have HZ : Hid (wd (nB l0) i = x) := Lib.hid (by rw [hx, hm, numB_wd])
      replace r_c := r_c.drew
      replace Bw0 := Bw0.drew
      have f_k := HF0.out.below Bw0 (Nat.le_refl _)
      obtain ⟨v_s, f_s, hrs⟩ := dropB f_k m (by rw [HL.out]; omega)
      have HG : Hid (Calls Try.prog 31 #[v_s] wr.drew fun e w' => e = .returned (.int .u32 (x : Int)) ∧ w' = wr.drew) := Lib.hid (by rw [hx]; exact get32_any _ _ _ f_s)
      clear hm hx hi hlt f_k f_s
      go_wp2
      refine ea_start [(0, some [10]), (1, some [10]), (2, some [10]), (3, some [10]), (4, some [10]), (5, some [6]), (7, some []), (8, some []), (6, none), (9, some [10]), (10, none)] (by kernel_rfl) (by kernel_rfl) (by decide) (by kernel_rfl) (fun d _ _ _ _ h => by cases d <;> exact h) ?_
      refine ea_rd 14 (.pointer (some ⟨b_c, 0, none⟩)) rfl rfl rfl rfl rfl (by unfold mkOp; go_simp; all_goals (with_reducible rfl)) ?_
      simp only [Act.put, zA, zB, zC]
      refine ea_rd 15 (.int .i64 (i : Int)) rfl rfl rfl rfl rfl (by unfold mkOp; go_simp; all_goals (with_reducible rfl)) ?_
      simp only [Act.put, zA, zB, zC]
      refine ea_rd 16 (v0) rfl rfl rfl rfl rfl (by unfold mkOp; go_simp; all_goals (with_reducible rfl)) ?_
      simp only [Act.put, zA, zB, zC]
      refine ea_rd 17 (.int .i64 (i : Int)) rfl rfl rfl rfl rfl (by unfold mkOp; go_simp; all_goals (with_reducible rfl)) ?_
      simp only [Act.put, zA, zB, zC]
      refine ea_rd 18 (.int .i64 (m : Int)) rfl rfl rfl rfl rfl (by unfold mkOp; go_simp; all_goals (with_reducible rfl)) ?_
      simp only [Act.put, zA, zB, zC]
      refine ea_rd 19 (v_s) rfl rfl rfl rfl rfl (by exact hrs _ _ _ _ _ rfl rfl) ?_
      simp only [Act.put, zA, zB, zC]
      refine le_rdA 21 (.pointer (some ⟨b_c, 0, none⟩)) rfl rfl rfl rfl rfl (fun wx => by unfold mkOp; go_simp; all_goals (with_reducible rfl)) ?_
      simp only [Act.put, zA, zB, zC]
      refine le_rdA 22 (.pointer (some ⟨b_c, 256, none⟩)) rfl rfl rfl rfl rfl (fun wx => by unfold mkOp; go_simp; all_goals (with_reducible rfl)) ?_
      simp only [Act.put, zA, zB, zC]
      refine ea_call 20 (HG.out) rfl rfl rfl rfl Try.func31 (by kernel_rfl) (by kernel_rfl) (by go_simp) ?_
      simp only [Act.put, zA, zB, zC]
      refine ea_rd 23 (.pointer (some ⟨b_c, 256 + i, none⟩)) rfl rfl rfl rfl rfl (by unfold mkOp; go_simp; all_goals (with_reducible rfl)) ?_
      simp only [Act.put, zA, zB, zC]
      refine ea_storeW (upN (wd (nB l0)) (fun _ => 0) (i + 1)) rfl rfl rfl rfl rfl rfl r_c HIL.out rfl rfl (by kernel_rfl) (upN_stepC _ _ i x 60 HZ.out) ?_
      intro w7 q7 g7
      refine le_end ?_
      have Bw1 := zbg HGS Bw0 g7 l_c
      clear Bw0 g7 r_c hw1 hiJ hrs HG
      go_wp2
      go_roundw
      case rel => exact ⟨i + 1, HI.out, by have := HI.out; go_num, q7, Bw1⟩
      case measure => (have := HI.out; simp [intOf]; try omega)
    · obtain rfl : i = 8 := by omega
      replace r_c : wr.rowIs b_c 57 316 (ciF boxN (wd (nB (schS l0 0).1))) := ci_congr r_c fun j _ => by
        unfold upN
        split
        · rfl
        · exact (wd_out l0 j (by rw [HL.out]; omega)).symm
      clear hi hlt
      rw [show ((8 : Nat) : Int) = 8 from rfl]
      go_wp2
      go_loopw [5, 6] (fun mv iv wr => ∃ n : Nat, n ≤ 52 ∧ mv = .int .u8 (((schS l0 n).2 : Nat) : Int) ∧ iv = .int .i64 ((n + 8 : Nat) : Int) ∧ wr.rowIs b_c 57 316 (ciF boxN (wd (nB (schS l0 n).1))) ∧ Below w.heap.size w wr) (fun _ iv _ => 60 - (intOf iv).toNat)
      case atStart => exact ⟨0, by decide, rfl, rfl, r_c, Bw0⟩
      case round =>
        clear r_c Bw0
        obtain ⟨n, hn, rfl, rfl, r_c, Bw0⟩ := hrel
        by_cases hlt : n < 52
        · obtain ⟨rc, hrc⟩ := nat_var (schS l0 n).2
          obtain ⟨W, hW⟩ : ∃ W, W = (schS l0 n).1 := ⟨_, rfl⟩
          obtain ⟨i, hi⟩ := nat_var (n + 8)
          have hrl : rc < 256 := by rw [hrc]; exact schS_lt l0 n
          have hWl : W.length = 4 * i := by rw [hW, hi]; exact schS_len l0 HL.out n
          obtain ⟨X, hX⟩ : ∃ X, X = (W.take (4 * i)).drop (4 * i - 4) := ⟨_, rfl⟩
          obtain ⟨x, hx⟩ := nat_var (wd (nB W) (i - 1))
          have hXx : wd (nB X) 0 = x := by rw [hX, hx]; exact wd_last W i hWl (by omega)
          have HST : schS l0 (n + 1) = (W ++ nW W (tW X i rc) i 4, if i % 8 = 0 then gfm rc 2 else rc) := by
            rw [hX, hi, hrc, hW]
            rfl
          obtain ⟨e, he⟩ := nat_var (i % 8)
          obtain ⟨i8, hi8⟩ := nat_var (i - 8)
          obtain ⟨i1, hi1⟩ := nat_var (i - 1)
          obtain ⟨u, hu⟩ := nat_var (wd (nB W) i8)
          have hul : u < 4294967296 := by rw [hu]; exact wd_lt (nB_lt W) _
          rw [← hW] at r_c
          rw [← hrc, ← hi]
          have hiI : 0 ≤ (i : Int) ∧ (i : Int) < 60 := by omega
          have hi8I : 0 ≤ (i8 : Int) ∧ (i8 : Int) < 60 := by omega
          have hi1I : 0 ≤ (i1 : Int) ∧ (i1 : Int) < 60 := by omega
          have hw1 : IntKind.i64.wrap ((i : Int) - 1) = (i1 : Int) := by rw [IntWalk.i64_in _ (by omega)]; omega
          have hw2 : IntKind.i64.wrap ((i : Int) - 8) = (i8 : Int) := by rw [IntWalk.i64_in _ (by omega)]; omega
          have hw4 : (i : Int).tmod 8 = (e : Int) := by rw [Int.tmod_eq_emod_of_nonneg (by omega)]; omega
          have hw3 : IntKind.i64.wrap ((i : Int).tmod 8) = (e : Int) := by rw [hw4, IntWalk.i64_in _ (by omega)]
          obtain ⟨i2, hi2⟩ := nat_var (i + 1)
          have hw5 : IntKind.i64.wrap ((i : Int) + 1) = (i2 : Int) := by rw [IntWalk.i64_in _ (by omega)]; omega
          have HI2 := Lib.hid hi2
          have HIL : Hid (i < 60) := Lib.hid (by omega)
          have HI8 : Hid (i8 < 60) := Lib.hid (by omega)
          have HI1 : Hid (i1 < 60) := Lib.hid (by omega)
          have HU : Hid (u = wd (nB W) i8) := Lib.hid hu
          have HX : Hid (wd (nB W) i1 = x) := Lib.hid (by rw [hx, hi1])
          have HN : Hid (n + 1 ≤ 52 ∧ i = n + 8) := Lib.hid ⟨hlt, hi⟩
          have HSTEP : ∀ y z : Nat, (schS l0 (n + 1)).1 = W ++ nW W (tW X i rc) i 4 → wd (nB (tW X i rc)) 0 = y → z = u ^^^ y → ∀ j, j < 60 → wd (nB (schS l0 (n + 1)).1) j = if j = i then z else wd (nB W) j := fun y z e1 e2 e3 j _ => by
            rw [e1, wd_app W _ i hWl (nW_len _ _ _ 4), wd_nW W _ i (by omega), e2, e3, hu, hi8]
          have xs0 : nB X 0 < 256 := nB_lt X 0
          by_cases he0 : e = 0
          · have hi0 : i % 8 = 0 := by omega
            obtain ⟨t, ht⟩ := nat_var (w4 (nB X 1) (nB X 2) (nB X 3) (nB X 0))
            obtain ⟨s, hs⟩ := nat_var (w4 (boxN (nB X 1)) (boxN (nB X 2)) (boxN (nB X 3)) (boxN (nB X 0)))
            obtain ⟨k, hk⟩ := nat_var (w4 rc 0 0 0)
            obtain ⟨y, hy⟩ := nat_var (s ^^^ k)
            obtain ⟨z, hz⟩ := nat_var (u ^^^ y)
            have hxx : x = w4 (nB X 0) (nB X 1) (nB X 2) (nB X 3) := hXx.symm
            have R1 : Hid (∀ w1, Calls Try.prog 33 #[.int .u32 (x : Int), .int .i64 8] w1 fun e w' => e = .returned (.int .u32 (t : Int)) ∧ w' = w1) := Lib.hid fun w1 => by rw [hxx, ht]; exact rotw_8 _ _ _ _ w1 (nB_lt _ _) (nB_lt _ _) (nB_lt _ _) (nB_lt _ _)
            have HSB : Hid (∀ w1, w1.rowIs b_c 57 316 (ciF boxN (wd (nB W))) → Calls Try.prog 32 #[.pointer (some ⟨b_c, 0, none⟩), .int .u32 (t : Int)] w1 fun e w' => e = .returned (.int .u32 (s : Int)) ∧ Below w1.heap.size w1 w') := Lib.hid fun w1 h => by
              rw [ht, hs]
              exact sub_any b_c _ _ _ _ _ w1 h (ci_box _ _) (nB_lt _ _) (nB_lt _ _) (nB_lt _ _) (nB_lt _ _)
            obtain ⟨m2, hm2⟩ := nat_var (xtN rc)
            have RD : Hid (∀ w1, Calls Try.prog 34 #[.int .u8 (rc : Int)] w1 fun e w' => e = .returned (.int .u8 (m2 : Int)) ∧ w' = w1) := Lib.hid fun w1 => by rw [hm2]; exact dbl_any rc w1 hrl
            have sl : s < 4294967296 := by rw [hs]; exact w4_lt (boxN_lt _) (boxN_lt _) (boxN_lt _) (boxN_lt _)
            have kl : k < 4294967296 := by rw [hk]; exact w4_lt hrl (by decide) (by decide) (by decide)
            have hye : y = w4 (boxN (nB X 1) ^^^ rc) (boxN (nB X 2)) (boxN (nB X 3)) (boxN (nB X 0)) := by rw [hy, hs, hk, w4_xor (boxN_lt _) (boxN_lt _) (boxN_lt _) (by decide) (by decide) (by decide)]; simp
            have yl : y < 4294967296 := by rw [hye]; exact w4_lt (xor_lt8 (boxN_lt _) hrl) (boxN_lt _) (boxN_lt _) (boxN_lt _)
            have b1 : IntKind.u32.wrap (rc : Int) = (rc : Int) := by rw [IntKind.wrap_u32]; omega
            have b2 : IntKind.u32.wrap ((rc : Int) * 16777216) = (k : Int) := by rw [IntKind.wrap_u32, hk]; unfold w4; omega
            have b3 : bits .xor .u32 (s : Int) (k : Int) = (y : Int) := by rw [bits_xor32 s k sl kl, hy]
            have e9 : bits .xor .u32 (u : Int) (y : Int) = (z : Int) := by rw [bits_xor32 u y hul yl, hz]
            have hty : wd (nB (tW X i rc)) 0 = y := by
              unfold tW
              rw [if_pos hi0, wd_four, hye]
              exact w4_ext (UInt8.toNat_ofNat_of_lt' (xor_lt8 (boxN_lt _) hrl)) (sb8_n _) (sb8_n _) (sb8_n _)
            have HZ := Lib.hid (HSTEP y z (by rw [HST]) hty hz)
            have HM : Hid ((schS l0 (n + 1)).2 = m2) := Lib.hid (by rw [HST, hm2, ← gfm_two rc hrl]; exact if_pos hi0)
            clear ht hs hk hy hz hxx hm2 sl kl hye yl hty hi0
            clear hn hlt hrc hW hrl hWl hX hx hXx HST hi8 hi1 hu hul HSTEP xs0 hi hi2 he
            subst he0
            go_wp2_with (first
              | (have hgo := HX; clear hgo
                 refine wpList_load_w rfl 53 (.tmp 34) rfl r_c HI1.out rfl (by kernel_rfl) HX.out ?_
                 clear HX)
              | (have hgo := R1; clear hgo
                 go_at_call 33
                 refine (R1.out _).mono ?_
                 rintro e w2 ⟨rfl, rfl⟩
                 clear R1)
              | (have hgo := Bw0; clear hgo
                 go_at_call 32
                 refine (HSB.out _ r_c).mono ?_
                 rintro e w3 ⟨rfl, kk⟩
                 replace r_c := zrb r_c kk
                 have Bw1 := zbt HGS Bw0 kk
                 clear Bw0 kk)
              | (have hgo := RD; clear hgo
                 go_at_call 34
                 refine (RD.out _).mono ?_
                 rintro e w5 ⟨rfl, rfl⟩
                 clear RD))
            clear b1 b2 b3 hw1 hw3 hw4 hi1I
            replace r_c := r_c.drew
            replace Bw1 := Bw1.drew
            have c2 : w5.drew.cell? ⟨b_c, 256 + i8, none⟩ = some (.int .u32 (u : Int)) := by rw [HU.out, ← ci_word boxN]; exact r_c.cell (by have := HI8.out; omega)
            refine ea_start [(0, some [14]), (1, some [14]), (2, some [14]), (3, some [14]), (4, some [14]), (5, some [14]), (6, some [14]), (7, some [14]), (8, some [14]), (9, some [14]), (10, some [14]), (11, some []), (12, some []), (13, some [14]), (14, none)] (by kernel_rfl) (by kernel_rfl) (by decide) (by kernel_rfl) (fun d _ _ _ _ h => by cases d <;> exact h) ?_
            refine ea_rd 55 (.pointer (some ⟨b_c, 0, none⟩)) rfl rfl rfl rfl rfl (by unfold mkOp; go_simp; all_goals (with_reducible rfl)) ?_
            simp only [Act.put, zA, zB, zC]
            refine ea_rd 56 (.int .i64 (i : Int)) rfl rfl rfl rfl rfl (by unfold mkOp; go_simp; all_goals (with_reducible rfl)) ?_
            simp only [Act.put, zA, zB, zC]
            refine ea_rd 57 (.pointer (some ⟨b_c, 0, none⟩)) rfl rfl rfl rfl rfl (by unfold mkOp; go_simp; all_goals (with_reducible rfl)) ?_
            simp only [Act.put, zA, zB, zC]
            refine ea_rd 58 (.int .i64 (i : Int)) rfl rfl rfl rfl rfl (by unfold mkOp; go_simp; all_goals (with_reducible rfl)) ?_
            simp only [Act.put, zA, zB, zC]
            refine ea_rd 59 (.int .i64 (i8 : Int)) rfl rfl rfl rfl rfl (by unfold mkOp; go_simp; all_goals (with_reducible rfl)) ?_
            simp only [Act.put, zA, zB, zC]
            refine ea_rd 60 (.pointer (some ⟨b_c, 0, none⟩)) rfl rfl rfl rfl rfl (by unfold mkOp; go_simp; all_goals (with_reducible rfl)) ?_
            simp only [Act.put, zA, zB, zC]
            refine ea_rd 61 (.pointer (some ⟨b_c, 256, none⟩)) rfl rfl rfl rfl rfl (by unfold mkOp; go_simp; all_goals (with_reducible rfl)) ?_
            simp only [Act.put, zA, zB, zC]
            refine ea_rd 62 (.pointer (some ⟨b_c, 256 + i8, none⟩)) rfl rfl rfl rfl rfl (by unfold mkOp; go_simp; all_goals (with_reducible rfl)) ?_
            simp only [Act.put, zA, zB, zC]
            refine ea_rd 63 (.int .u32 (u : Int)) rfl rfl rfl rfl rfl (by have c9 := c2; unfold mkOp; go_simp; all_goals (with_reducible rfl)) ?_
            simp only [Act.put, zA, zB, zC]
            refine ea_rd 64 (.int .u32 (y : Int)) rfl rfl rfl rfl rfl (by unfold mkOp; go_simp; all_goals (with_reducible rfl)) ?_
            simp only [Act.put, zA, zB, zC]
            refine ea_rd 65 (.int .u32 (z : Int)) rfl rfl rfl rfl rfl (by unfold mkOp; go_simp; all_goals (with_reducible rfl)) ?_
            simp only [Act.put, zA, zB, zC]
            refine le_rdA 66 (.pointer (some ⟨b_c, 0, none⟩)) rfl rfl rfl rfl rfl (fun wx => by unfold mkOp; go_simp; all_goals (with_reducible rfl)) ?_
            simp only [Act.put, zA, zB, zC]
            refine le_rdA 67 (.pointer (some ⟨b_c, 256, none⟩)) rfl rfl rfl rfl rfl (fun wx => by unfold mkOp; go_simp; all_goals (with_reducible rfl)) ?_
            simp only [Act.put, zA, zB, zC]
            refine ea_rd 68 (.pointer (some ⟨b_c, 256 + i, none⟩)) rfl rfl rfl rfl rfl (by unfold mkOp; go_simp; all_goals (with_reducible rfl)) ?_
            simp only [Act.put, zA, zB, zC]
            refine ea_storeW (wd (nB (schS l0 (n + 1)).1)) rfl rfl rfl rfl rfl rfl r_c HIL.out rfl rfl (by kernel_rfl) HZ.out ?_
            intro w7 q7 g7
            refine le_end ?_
            have B7 := zbg HGS Bw1 g7 l_c
            clear Bw1 g7 r_c c2 e9 hi8I hiI
            go_wp2
            go_roundw
            case rel => exact ⟨n + 1, HN.out.1, by rw [HM.out], by rw [HI2.out, HN.out.2], q7, B7⟩
            case measure => (have := HN.out; have := HI2.out; simp [intOf]; try omega)
          · have hi0 : ¬ i % 8 = 0 := by omega
            by_cases he4 : e = 4
            · have hi4 : i % 8 = 4 := by omega
              obtain ⟨s, hs⟩ := nat_var (w4 (boxN (nB X 0)) (boxN (nB X 1)) (boxN (nB X 2)) (boxN (nB X 3)))
              obtain ⟨z, hz⟩ := nat_var (u ^^^ s)
              have hxx : x = w4 (nB X 0) (nB X 1) (nB X 2) (nB X 3) := hXx.symm
              have HSB : Hid (∀ w1, w1.rowIs b_c 57 316 (ciF boxN (wd (nB W))) → Calls Try.prog 32 #[.pointer (some ⟨b_c, 0, none⟩), .int .u32 (x : Int)] w1 fun e w' => e = .returned (.int .u32 (s : Int)) ∧ Below w1.heap.size w1 w') := Lib.hid fun w1 h => by
                rw [hxx, hs]
                exact sub_any b_c _ _ _ _ _ w1 h (ci_box _ _) (nB_lt _ _) (nB_lt _ _) (nB_lt _ _) (nB_lt _ _)
              have sl : s < 4294967296 := by rw [hs]; exact w4_lt (boxN_lt _) (boxN_lt _) (boxN_lt _) (boxN_lt _)
              have e9 : bits .xor .u32 (u : Int) (s : Int) = (z : Int) := by rw [bits_xor32 u s hul sl, hz]
              have hty : wd (nB (tW X i rc)) 0 = s := by
                unfold tW
                rw [if_neg hi0, if_pos hi4, wd_four, hs]
                exact w4_ext (sb8_n _) (sb8_n _) (sb8_n _) (sb8_n _)
              have HZ := Lib.hid (HSTEP s z (by rw [HST]) hty hz)
              have HM : Hid ((schS l0 (n + 1)).2 = rc) := Lib.hid (by rw [HST]; exact if_neg hi0)
              clear hs hz hxx sl hty hi0 hi4 he0
              clear hn hlt hrc hW hrl hWl hX hx hXx HST hi8 hi1 hu hul HSTEP xs0 hi hi2 he
              subst he4
              go_wp2_with (first
                | (have hgo := HX; clear hgo
                   refine wpList_load_w rfl 53 (.tmp 34) rfl r_c HI1.out rfl (by kernel_rfl) HX.out ?_
                   clear HX)
                | (have hgo := Bw0; clear hgo
                   go_at_call 32
                   refine (HSB.out _ r_c).mono ?_
                   rintro e w3 ⟨rfl, kk⟩
                   replace r_c := zrb r_c kk
                   have Bw1 := zbt HGS Bw0 kk
                   clear Bw0 kk))
              clear hw1 hw3 hw4 hi1I
              replace r_c := r_c.drew
              replace Bw1 := Bw1.drew
              have c2 : w3.drew.cell? ⟨b_c, 256 + i8, none⟩ = some (.int .u32 (u : Int)) := by rw [HU.out, ← ci_word boxN]; exact r_c.cell (by have := HI8.out; omega)
              refine ea_start [(0, some [14]), (1, some [14]), (2, some [14]), (3, some [14]), (4, some [14]), (5, some [14]), (6, some [14]), (7, some [14]), (8, some [14]), (9, some [14]), (10, some [14]), (11, some []), (12, some []), (13, some [14]), (14, none)] (by kernel_rfl) (by kernel_rfl) (by decide) (by kernel_rfl) (fun d _ _ _ _ h => by cases d <;> exact h) ?_
              refine ea_rd 55 (.pointer (some ⟨b_c, 0, none⟩)) rfl rfl rfl rfl rfl (by unfold mkOp; go_simp; all_goals (with_reducible rfl)) ?_
              simp only [Act.put, zA, zB, zC]
              refine ea_rd 56 (.int .i64 (i : Int)) rfl rfl rfl rfl rfl (by unfold mkOp; go_simp; all_goals (with_reducible rfl)) ?_
              simp only [Act.put, zA, zB, zC]
              refine ea_rd 57 (.pointer (some ⟨b_c, 0, none⟩)) rfl rfl rfl rfl rfl (by unfold mkOp; go_simp; all_goals (with_reducible rfl)) ?_
              simp only [Act.put, zA, zB, zC]
              refine ea_rd 58 (.int .i64 (i : Int)) rfl rfl rfl rfl rfl (by unfold mkOp; go_simp; all_goals (with_reducible rfl)) ?_
              simp only [Act.put, zA, zB, zC]
              refine ea_rd 59 (.int .i64 (i8 : Int)) rfl rfl rfl rfl rfl (by unfold mkOp; go_simp; all_goals (with_reducible rfl)) ?_
              simp only [Act.put, zA, zB, zC]
              refine ea_rd 60 (.pointer (some ⟨b_c, 0, none⟩)) rfl rfl rfl rfl rfl (by unfold mkOp; go_simp; all_goals (with_reducible rfl)) ?_
              simp only [Act.put, zA, zB, zC]
              refine ea_rd 61 (.pointer (some ⟨b_c, 256, none⟩)) rfl rfl rfl rfl rfl (by unfold mkOp; go_simp; all_goals (with_reducible rfl)) ?_
              simp only [Act.put, zA, zB, zC]
              refine ea_rd 62 (.pointer (some ⟨b_c, 256 + i8, none⟩)) rfl rfl rfl rfl rfl (by unfold mkOp; go_simp; all_goals (with_reducible rfl)) ?_
              simp only [Act.put, zA, zB, zC]
              refine ea_rd 63 (.int .u32 (u : Int)) rfl rfl rfl rfl rfl (by have c9 := c2; unfold mkOp; go_simp; all_goals (with_reducible rfl)) ?_
              simp only [Act.put, zA, zB, zC]
              refine ea_rd 64 (.int .u32 (s : Int)) rfl rfl rfl rfl rfl (by unfold mkOp; go_simp; all_goals (with_reducible rfl)) ?_
              simp only [Act.put, zA, zB, zC]
              refine ea_rd 65 (.int .u32 (z : Int)) rfl rfl rfl rfl rfl (by unfold mkOp; go_simp; all_goals (with_reducible rfl)) ?_
              simp only [Act.put, zA, zB, zC]
              refine le_rdA 66 (.pointer (some ⟨b_c, 0, none⟩)) rfl rfl rfl rfl rfl (fun wx => by unfold mkOp; go_simp; all_goals (with_reducible rfl)) ?_
              simp only [Act.put, zA, zB, zC]
              refine le_rdA 67 (.pointer (some ⟨b_c, 256, none⟩)) rfl rfl rfl rfl rfl (fun wx => by unfold mkOp; go_simp; all_goals (with_reducible rfl)) ?_
              simp only [Act.put, zA, zB, zC]
              refine ea_rd 68 (.pointer (some ⟨b_c, 256 + i, none⟩)) rfl rfl rfl rfl rfl (by unfold mkOp; go_simp; all_goals (with_reducible rfl)) ?_
              simp only [Act.put, zA, zB, zC]
              refine ea_storeW (wd (nB (schS l0 (n + 1)).1)) rfl rfl rfl rfl rfl rfl r_c HIL.out rfl rfl (by kernel_rfl) HZ.out ?_
              intro w7 q7 g7
              refine le_end ?_
              have B7 := zbg HGS Bw1 g7 l_c
              clear Bw1 g7 r_c c2 e9 hi8I hiI
              go_wp2
              go_roundw
              case rel => exact ⟨n + 1, HN.out.1, by rw [HM.out], by rw [HI2.out, HN.out.2], q7, B7⟩
              case measure => (have := HN.out; have := HI2.out; simp [intOf]; try omega)
            · obtain ⟨z, hz⟩ := nat_var (u ^^^ x)
              have hi4 : ¬ i % 8 = 4 := by omega
              have hxx : x = w4 (nB X 0) (nB X 1) (nB X 2) (nB X 3) := hXx.symm
              have e9 : bits .xor .u32 (u : Int) (x : Int) = (z : Int) := by rw [bits_xor32 u x hul (by rw [hxx]; exact w4_lt (nB_lt _ _) (nB_lt _ _) (nB_lt _ _) (nB_lt _ _)), hz]
              have hty : wd (nB (tW X i rc)) 0 = x := by
                unfold tW
                rw [if_neg hi0, if_neg hi4, hXx]
              have HZ := Lib.hid (HSTEP x z (by rw [HST]) hty hz)
              have HM : Hid ((schS l0 (n + 1)).2 = rc) := Lib.hid (by rw [HST]; exact if_neg hi0)
              have heI : ¬ (e : Int) = 0 := by omega
              have heJ : ¬ (e : Int) = 4 := by omega
              clear hz hxx hty hi0 hi4 he0 he4
              clear hn hlt hrc hW hrl hWl hX hx hXx HST hi8 hi1 hu hul HSTEP xs0 hi hi2 he
              go_wp2_with (first
                | (have hgo := HX; clear hgo
                   refine wpList_load_w rfl 53 (.tmp 34) rfl r_c HI1.out rfl (by kernel_rfl) HX.out ?_
                   clear HX))
              clear hw1 hw3 hw4 hi1I heI heJ
              replace r_c := r_c.drew
              replace Bw0 := Bw0.drew
              have c2 : wr.drew.cell? ⟨b_c, 256 + i8, none⟩ = some (.int .u32 (u : Int)) := by rw [HU.out, ← ci_word boxN]; exact r_c.cell (by have := HI8.out; omega)
              refine ea_start [(0, some [14]), (1, some [14]), (2, some [14]), (3, some [14]), (4, some [14]), (5, some [14]), (6, some [14]), (7, some [14]), (8, some [14]), (9, some [14]), (10, some [14]), (11, some []), (12, some []), (13, some [14]), (14, none)] (by kernel_rfl) (by kernel_rfl) (by decide) (by kernel_rfl) (fun d _ _ _ _ h => by cases d <;> exact h) ?_
              refine ea_rd 55 (.pointer (some ⟨b_c, 0, none⟩)) rfl rfl rfl rfl rfl (by unfold mkOp; go_simp; all_goals (with_reducible rfl)) ?_
              simp only [Act.put, zA, zB, zC]
              refine ea_rd 56 (.int .i64 (i : Int)) rfl rfl rfl rfl rfl (by unfold mkOp; go_simp; all_goals (with_reducible rfl)) ?_
              simp only [Act.put, zA, zB, zC]
              refine ea_rd 57 (.pointer (some ⟨b_c, 0, none⟩)) rfl rfl rfl rfl rfl (by unfold mkOp; go_simp; all_goals (with_reducible rfl)) ?_
              simp only [Act.put, zA, zB, zC]
              refine ea_rd 58 (.int .i64 (i : Int)) rfl rfl rfl rfl rfl (by unfold mkOp; go_simp; all_goals (with_reducible rfl)) ?_
              simp only [Act.put, zA, zB, zC]
              refine ea_rd 59 (.int .i64 (i8 : Int)) rfl rfl rfl rfl rfl (by unfold mkOp; go_simp; all_goals (with_reducible rfl)) ?_
              simp only [Act.put, zA, zB, zC]
              refine ea_rd 60 (.pointer (some ⟨b_c, 0, none⟩)) rfl rfl rfl rfl rfl (by unfold mkOp; go_simp; all_goals (with_reducible rfl)) ?_
              simp only [Act.put, zA, zB, zC]
              refine ea_rd 61 (.pointer (some ⟨b_c, 256, none⟩)) rfl rfl rfl rfl rfl (by unfold mkOp; go_simp; all_goals (with_reducible rfl)) ?_
              simp only [Act.put, zA, zB, zC]
              refine ea_rd 62 (.pointer (some ⟨b_c, 256 + i8, none⟩)) rfl rfl rfl rfl rfl (by unfold mkOp; go_simp; all_goals (with_reducible rfl)) ?_
              simp only [Act.put, zA, zB, zC]
              refine ea_rd 63 (.int .u32 (u : Int)) rfl rfl rfl rfl rfl (by have c9 := c2; unfold mkOp; go_simp; all_goals (with_reducible rfl)) ?_
              simp only [Act.put, zA, zB, zC]
              refine ea_rd 64 (.int .u32 (x : Int)) rfl rfl rfl rfl rfl (by unfold mkOp; go_simp; all_goals (with_reducible rfl)) ?_
              simp only [Act.put, zA, zB, zC]
              refine ea_rd 65 (.int .u32 (z : Int)) rfl rfl rfl rfl rfl (by unfold mkOp; go_simp; all_goals (with_reducible rfl)) ?_
              simp only [Act.put, zA, zB, zC]
              refine le_rdA 66 (.pointer (some ⟨b_c, 0, none⟩)) rfl rfl rfl rfl rfl (fun wx => by unfold mkOp; go_simp; all_goals (with_reducible rfl)) ?_
              simp only [Act.put, zA, zB, zC]
              refine le_rdA 67 (.pointer (some ⟨b_c, 256, none⟩)) rfl rfl rfl rfl rfl (fun wx => by unfold mkOp; go_simp; all_goals (with_reducible rfl)) ?_
              simp only [Act.put, zA, zB, zC]
              refine ea_rd 68 (.pointer (some ⟨b_c, 256 + i, none⟩)) rfl rfl rfl rfl rfl (by unfold mkOp; go_simp; all_goals (with_reducible rfl)) ?_
              simp only [Act.put, zA, zB, zC]
              refine ea_storeW (wd (nB (schS l0 (n + 1)).1)) rfl rfl rfl rfl rfl rfl r_c HIL.out rfl rfl (by kernel_rfl) HZ.out ?_
              intro w7 q7 g7
              refine le_end ?_
              have B7 := zbg HGS Bw0 g7 l_c
              clear Bw0 g7 r_c c2 e9 hi8I hiI
              go_wp2
              go_roundw
              case rel => exact ⟨n + 1, HN.out.1, by rw [HM.out], by rw [HI2.out, HN.out.2], q7, B7⟩
              case measure => (have := HN.out; have := HI2.out; simp [intOf]; try omega)
        · obtain rfl : n = 52 := by omega
          clear hn hlt
          go_wp2
          go_ret
          exact ⟨b_c, rfl, l_c, r_c, Bw0⟩
end Go.Proofs.Ytiapkfeamochfaa

/- Eight words: sha2's all and plus; the first states and the rounds' numbers, the program's and the document's. -/
set_option linter.unusedSimpArgs false
set_option linter.unusedVariables false
namespace Go.Proofs.Ytiapkfeamochfaa
open Go.RowKit Go.Deep

def w64 (s : Nat → BitVec 64) : Nat → Value := fun i => .int .u64 ((s i).toNat : Int)
end Go.Proofs.Ytiapkfeamochfaa

/- The numbers of the standard: the rounds' and the first states; the program's tables of them, and the document's. -/
set_option linter.unusedSimpArgs false
set_option linter.unusedVariables false
namespace Go.Proofs.Ytiapkfeamochfaa
open Go.RowKit Go.Deep

def kNums : List Nat := [0x428a2f98d728ae22, 0x7137449123ef65cd, 0xb5c0fbcfec4d3b2f, 0xe9b5dba58189dbbc, 0x3956c25bf348b538, 0x59f111f1b605d019, 0x923f82a4af194f9b, 0xab1c5ed5da6d8118,
  0xd807aa98a3030242, 0x12835b0145706fbe, 0x243185be4ee4b28c, 0x550c7dc3d5ffb4e2, 0x72be5d74f27b896f, 0x80deb1fe3b1696b1, 0x9bdc06a725c71235, 0xc19bf174cf692694,
  0xe49b69c19ef14ad2, 0xefbe4786384f25e3, 0x0fc19dc68b8cd5b5, 0x240ca1cc77ac9c65, 0x2de92c6f592b0275, 0x4a7484aa6ea6e483, 0x5cb0a9dcbd41fbd4, 0x76f988da831153b5,
  0x983e5152ee66dfab, 0xa831c66d2db43210, 0xb00327c898fb213f, 0xbf597fc7beef0ee4, 0xc6e00bf33da88fc2, 0xd5a79147930aa725, 0x06ca6351e003826f, 0x142929670a0e6e70,
  0x27b70a8546d22ffc, 0x2e1b21385c26c926, 0x4d2c6dfc5ac42aed, 0x53380d139d95b3df, 0x650a73548baf63de, 0x766a0abb3c77b2a8, 0x81c2c92e47edaee6, 0x92722c851482353b,
  0xa2bfe8a14cf10364, 0xa81a664bbc423001, 0xc24b8b70d0f89791, 0xc76c51a30654be30, 0xd192e819d6ef5218, 0xd69906245565a910, 0xf40e35855771202a, 0x106aa07032bbd1b8,
  0x19a4c116b8d2d0c8, 0x1e376c085141ab53, 0x2748774cdf8eeb99, 0x34b0bcb5e19b48a8, 0x391c0cb3c5c95a63, 0x4ed8aa4ae3418acb, 0x5b9cca4f7763e373, 0x682e6ff3d6b2b8a3,
  0x748f82ee5defb2fc, 0x78a5636f43172f60, 0x84c87814a1f0ab72, 0x8cc702081a6439ec, 0x90befffa23631e28, 0xa4506cebde82bde9, 0xbef9a3f7b2c67915, 0xc67178f2e372532b,
  0xca273eceea26619c, 0xd186b8c721c0c207, 0xeada7dd6cde0eb1e, 0xf57d4f7fee6ed178, 0x06f067aa72176fba, 0x0a637dc5a2c898a6, 0x113f9804bef90dae, 0x1b710b35131c471b,
  0x28db77f523047d84, 0x32caab7b40c72493, 0x3c9ebe0a15c9bebc, 0x431d67c49c100d4c, 0x4cc5d4becb3e42b6, 0x597f299cfc657e2a, 0x5fcb6fab3ad6faec, 0x6c44198c4a475817]
def iNums : List Nat := [0x6a09e667f3bcc908, 0xbb67ae8584caa73b, 0x3c6ef372fe94f82b, 0xa54ff53a5f1d36f1, 0x510e527fade682d1, 0x9b05688c2b3e6c1f, 0x1f83d9abfb41bd6b, 0x5be0cd19137e2179]
def K64 (i : Nat) : BitVec 64 := BitVec.ofNat 64 (kNums.getD i 0)
def K32 (i : Nat) : BitVec 32 := BitVec.ofNat 32 ((K64 i).toNat / 2 ^ 32)
def I64 (i : Nat) : BitVec 64 := BitVec.ofNat 64 (iNums.getD i 0)
def I32 (i : Nat) : BitVec 32 := BitVec.ofNat 32 ((I64 i).toNat / 2 ^ 32)
def k256 : Kind 32 := { big0 := fun x => tri x 2 13 22, big1 := fun x => tri x 6 11 25, low0 := fun x => sig x 7 18 3, low1 := fun x => sig x 17 19 10, num := K32, rounds := 64, first := S8.of I32, bytes := 4 }
end Go.Proofs.Ytiapkfeamochfaa

/- A block's words: sha2's spread256, spread512. -/
set_option linter.unusedSimpArgs false
set_option linter.unusedVariables false
namespace Go.Proofs.Ytiapkfeamochfaa
open Go.RowKit Go.Deep

end Go.Proofs.Ytiapkfeamochfaa

/- One more block: sha2's press256, press512. -/
set_option linter.unusedSimpArgs false
set_option linter.unusedVariables false
namespace Go.Proofs.Ytiapkfeamochfaa
open Go.RowKit Go.Deep
end Go.Proofs.Ytiapkfeamochfaa

/- What makes whole blocks: sha2's ending. -/
set_option linter.unusedSimpArgs false
set_option linter.unusedVariables false
namespace Go.Proofs.Ytiapkfeamochfaa
open Go.RowKit Go.Deep

end Go.Proofs.Ytiapkfeamochfaa

/- A sum that is under way: the state behind the whole blocks, and the block that was begun; no world in it. -/
set_option linter.unusedSimpArgs false
set_option linter.unusedVariables false
namespace Go.Proofs.Ytiapkfeamochfaa
open Go.RowKit Go.Deep

/-- blk with cs laid over it from place k on. -/
def patch (blk : Nat → UInt8) (k n : Nat) (cs : List UInt8) : Nat → UInt8 := fun i => if k ≤ i ∧ i < k + n then cs.getD (i - k) 0 else blk i

section
variable {n : Nat} (k : Kind n)
/-- Behind the bytes m: s is the state behind the whole blocks, blk begins with what is left. -/
structure Dig (m : List UInt8) (s : S8 n) (blk : Nat → UInt8) : Prop where
  state : s = k.state m (m.length / k.block)
  begun : ∀ i, i < m.length % k.block → blk i = m.getD (k.block * (m.length / k.block) + i) 0

theorem Dig.short {k : Kind n} {m : List UInt8} {s : S8 n} {blk : Nat → UInt8} (h : Dig k m s blk) (l : List UInt8) (c : Nat) (hc : c ≤ l.length) (hb : m.length % k.block + c < k.block) :
    Dig k (m ++ l.take c) s (patch blk (m.length % k.block) c l) := by
  obtain ⟨h1, h2⟩ := h
  have hl : (m ++ l.take c).length = m.length + c := by simp; omega
  have hdm := Nat.div_add_mod m.length k.block
  have hq : (m.length + c) / k.block = m.length / k.block := by
    rw [Nat.div_eq_iff (by omega)]
    constructor
    · rw [Nat.mul_comm]; omega
    · rw [Nat.mul_comm]; omega
  have hr : (m.length + c) % k.block = m.length % k.block + c := by
    have h3 := Nat.div_add_mod (m.length + c) k.block
    rw [hq] at h3
    omega
  refine ⟨?_, fun i hi => ?_⟩
  · rw [hl, hq, k.state_append _ _ _ (by omega)]; exact h1
  · rw [hl, hr] at hi
    rw [hl, hq]
    unfold patch
    have e0 : (m ++ l.take c).getD (k.block * (m.length / k.block) + i) 0 = ((m ++ l.take c)[k.block * (m.length / k.block) + i]?).getD 0 := List.getD_eq_getElem?_getD
    rw [e0, List.getElem?_append]
    by_cases e : i < m.length % k.block
    · rw [if_neg (by omega), if_pos (by omega), h2 i e, List.getD_eq_getElem?_getD]
    · rw [if_pos (by omega), if_neg (by omega), List.getElem?_take_of_lt (by omega), List.getD_eq_getElem?_getD]
      congr 2
      omega

/-- What the sum is, once the ending has come in too. -/
theorem Dig.sum {k : Kind n} {m : List UInt8} {s : S8 n} {blk : Nat → UInt8} (h : Dig k (m ++ endOf m.length k.block) s blk) : k.out s 8 = k.sum m := by
  rw [h.state]; rfl
end
end Go.Proofs.Ytiapkfeamochfaa

/- Where a sum that is under way lies in memory; the closures that press its block. -/
set_option linter.unusedSimpArgs false
set_option linter.unusedVariables false
namespace Go.Proofs.Ytiapkfeamochfaa
open Go.RowKit Go.Deep

end Go.Proofs.Ytiapkfeamochfaa

/- sha2's cut: bytes come in, whole blocks are pressed. -/
set_option linter.unusedSimpArgs false
set_option linter.unusedVariables false
namespace Go.Proofs.Ytiapkfeamochfaa
open Go.RowKit Go.Deep

end Go.Proofs.Ytiapkfeamochfaa

/- Hash256: Add. -/
set_option linter.unusedSimpArgs false
set_option linter.unusedVariables false
namespace Go.Proofs.Ytiapkfeamochfaa
open Go.RowKit Go.Deep

end Go.Proofs.Ytiapkfeamochfaa

/- Rows one behind the other: flat.Cat, missivealike.Cat. -/
set_option linter.unusedSimpArgs false
set_option linter.unusedVariables false
namespace Go.Proofs.Ytiapkfeamochfaa
open Go.RowKit Go.Deep

/-- The first j rows, one behind the other. -/
def catTo (L : List (List UInt8)) (j : Nat) : List UInt8 := (L.take j).flatten
theorem catTo_succ (L : List (List UInt8)) (j : Nat) (h : j < L.length) : catTo L (j + 1) = catTo L j ++ L[j] := by
  unfold catTo
  rw [List.take_succ_eq_append_getElem h, List.flatten_append]
  simp
theorem catTo_all (L : List (List UInt8)) (j : Nat) (h : L.length ≤ j) : catTo L j = L.flatten := by
  unfold catTo; rw [List.take_of_length_le h]
theorem catTo_le (L : List (List UInt8)) (j : Nat) : (catTo L j).length ≤ L.flatten.length := by
  have : L.flatten = catTo L j ++ (L.drop j).flatten := by unfold catTo; rw [← List.flatten_append, List.take_append_drop]
  rw [this, List.length_append]; omega

set_option maxHeartbeats 800000 in
theorem cat_any (v : Value) (L : List (List UInt8)) (w : World) (hv : Bss w v L) (hlen : L.flatten.length ≤ 2147483647) :
    Calls Try.prog 28 #[v] w fun e w' => ∃ v', e = .returned v' ∧ Owns w' w.heap.size v' L.flatten ∧ Below w.heap.size w w' := by
  have HV := Lib.hid hv
  obtain ⟨a, cap, rfl, h1, h2, h3, h4⟩ := hv
  clear h3 h4
  unfold maxLen at h2
  obtain ⟨i0, hi, hz0, hz1, hz2⟩ := info_parts Try.info5
  go_enter Try.func28, Try.ntmps28
  go_wp2
  go_loop [3, 11] (fun s i => ∃ j : Nat, j ≤ L.length ∧ i = .int .i64 j ∧ s = .int .i64 ((catTo L j).length : Nat)) (fun _ i => L.length - (intOf i).toNat)
  case atStart => exact ⟨0, Nat.zero_le _, rfl, rfl⟩
  case round =>
    obtain ⟨j, hj, rfl, rfl⟩ := hrel
    by_cases hlt : j < L.length
    · have hle := catTo_le L (j + 1)
      have hsucc := congrArg List.length (catTo_succ L j hlt)
      rw [List.length_append] at hsucc
      have hle2 : (catTo L j).length + L[j].length ≤ 2147483647 := by omega
      have HS := Lib.hid hsucc
      clear hsucc hle
      obtain ⟨b, off, cap', he, _, _, _, hc⟩ := HV.out.open_cons (by omega)
      cases he
      obtain ⟨u, hcj, hu⟩ := hc j hlt
      clear hc
      obtain ⟨au, cu, rfl, _, _, _, _⟩ := hu
      go_wp2
      go_round
      case rel => exact ⟨j + 1, by omega, by go_num, by rw [HS.out]; go_num⟩
      case measure => simp [intOf]; omega
    · obtain rfl : j = L.length := by omega
      have hall := catTo_all L L.length (Nat.le_refl _)
      rw [hall]
      clear hall
      generalize hn : L.flatten.length = n at *
      have HN := Lib.hid hn
      clear hn
      go_wp2_with (refine wpList_make_own _ rfl _ _ 22 rfl w.heap.size 5 i0 (.int .u8 0) 1 Try.underlying22 hi hz0 hz1 .i64 .i64 _ n rfl rfl rfl (by rw [hz2]; omega) (by unfold maxLen; omega) (Nat.le_refl _) ?_; intro w1 hown1 hgrow1)
      have hO : Owns w1 w.heap.size (.slice (some ⟨w.heap.size, 0, none⟩) 0 n) [] := hown1
      have hB1 : Below w.heap.size w w1 := (Below.refl _ _).grown hgrow1 (Nat.le_refl _) (fun k hk => by cases hk)
      clear hown1 hgrow1
      go_loopw [6, 24] (fun v i wr => ∃ j : Nat, j ≤ L.length ∧ i = .int .i64 j ∧ Owns wr w.heap.size v (catTo L j) ∧ Below w.heap.size w wr) (fun _ i _ => L.length - (intOf i).toNat)
      case atStart => exact ⟨0, Nat.zero_le _, rfl, hO, hB1⟩
      case round =>
        obtain ⟨j, hj, rfl, hown, hbel⟩ := hrel
        clear hO hB1
        by_cases hlt : j < L.length
        · have hsum : (catTo L j).length + L[j].length ≤ n := by
            have := catTo_le L (j + 1)
            rw [catTo_succ L j hlt, List.length_append] at this
            have := HN.out
            omega
          obtain ⟨b, off, cap', he, _, _, hbl, hc⟩ := HV.out.open_cons (by omega)
          cases he
          obtain ⟨u, hcj, hu⟩ := hc j hlt
          clear hc
          have hcr : wr.cell? ⟨b, off + j, none⟩ = some u := (hbel.cell (by exact hbl)).trans hcj
          have hur : Bs wr u L[j] := hu.below hbel (Nat.le_refl _)
          have HU := Lib.hid hur
          obtain ⟨au, cu, rfl, _, _, _, _⟩ := hu
          clear hur
          go_wp2_with (refine wpList_app rfl _ _ rfl w.heap.size _ _ (catTo L j) L[j] hown HU.out rfl rfl (by omega) (by have := hbel.size; omega) ?_; intro v2 w2 hown2 hgrow2)
          have hown3 : Owns w2 w.heap.size v2 (catTo L (j + 1)) := by rw [catTo_succ L j hlt]; exact hown2
          have hbel3 : Below w.heap.size w w2 := hbel.grown hgrow2 hbel.size (Owns.block hown)
          clear hown2 hgrow2 hown hbel hcr HU hsum
          go_wp2
          go_roundw
          case rel => exact ⟨j + 1, by omega, by go_num, hown3, hbel3⟩
          case measure => simp [intOf]; omega
        · obtain rfl : j = L.length := by omega
          go_wp2
          go_ret
          exact ⟨_, rfl, by rw [← catTo_all L L.length (Nat.le_refl _)]; exact hown, hbel⟩
end Go.Proofs.Ytiapkfeamochfaa

/- Hash256: Copy and Sum; Sum256. -/
set_option linter.unusedSimpArgs false
set_option linter.unusedVariables false
namespace Go.Proofs.Ytiapkfeamochfaa
open Go.RowKit Go.Deep

/-- A slice of the call's own stands behind calls that make no more than new blocks. -/
theorem Owns.below {w w' : World} {base : Nat} {v : Value} {l : List UInt8} (h : Owns w base v l) (hb : Below w.heap.size w w') : Owns w' base v l := by
  obtain ⟨h1, h2⟩ := h
  refine ⟨h1, ?_⟩
  rcases h2 with h2 | ⟨g, cap, cur, rfl, hbg, hg, h3⟩
  · exact .inl h2
  · exact .inr ⟨g, cap, cur, rfl, hbg, (hb.block g (Array.getElem?_eq_some_iff.1 hg).1).trans hg, h3⟩

end Go.Proofs.Ytiapkfeamochfaa

/- Sum256 and Sum512 of rows; the Hash256 that is nil. -/
set_option linter.unusedSimpArgs false
set_option linter.unusedVariables false
namespace Go.Proofs.Ytiapkfeamochfaa
open Go.RowKit Go.Deep

end Go.Proofs.Ytiapkfeamochfaa

/- HMAC and HKDF in words: what both the program's and the document's are walked to; no world in it. -/
set_option linter.unusedSimpArgs false
set_option linter.unusedVariables false
namespace Go.Proofs.Ytiapkfeamochfaa
open Go.RowKit Go.Deep

/-- The key that stands in a block: a longer one is its sum. -/
def shortK (key : List UInt8) : List UInt8 := if 64 < key.length then k256.sum key else key
/-- With noughts up to so many bytes; what is too long is cut. -/
def fillB (l : List UInt8) (n : Nat) : List UInt8 := l.take n ++ List.replicate (n - l.length) 0
def padK (key : List UInt8) : List UInt8 := fillB (shortK key) 64
def xorM (m : UInt8) (l : List UInt8) : List UInt8 := l.map (· ^^^ m)
/-- HMAC with SHA-256. -/
def hmac (key l : List UInt8) : List UInt8 := k256.sum (xorM 0x5c (padK key) ++ k256.sum (xorM 0x36 (padK key) ++ l))
/-- HKDF's sums and what they make one behind the other. -/
def hkN (prk info : List UInt8) : Nat → List UInt8
  | 0 => []
  | i + 1 => hmac prk (hkN prk info i ++ info ++ [UInt8.ofNat (i + 1)])
end Go.Proofs.Ytiapkfeamochfaa

/- The program's HMAC: begun, NewKey, Key.Mac, Mac, Extract. -/
set_option linter.unusedSimpArgs false
set_option linter.unusedVariables false
namespace Go.Proofs.Ytiapkfeamochfaa
open Go.RowKit Go.Deep

end Go.Proofs.Ytiapkfeamochfaa

/- The program's HKDF: stretch, Expand, Derive. -/
set_option linter.unusedSimpArgs false
set_option linter.unusedVariables false
namespace Go.Proofs.Ytiapkfeamochfaa
open Go.RowKit Go.Deep

theorem Bss.three {w : World} {v1 v2 v3 : Value} {l1 l2 l3 : List UInt8} (h1 : Bs w v1 l1) (h2 : Bs w v2 l2) (h3 : Bs w v3 l3) {n : Nat} (hn : w.heap.size = n) : Bss (w.alloc (.cells #[v1, v2, v3] 22)) (.slice (some ⟨n, 0, none⟩) 3 3) [l1, l2, l3] := by
  subst hn
  have hb : Below w.heap.size w (w.alloc (.cells #[v1, v2, v3] 22)) := (Below.refl _ _).alloc (Nat.le_refl _) _
  refine ⟨_, 3, rfl, by simp, by simp [maxLen], (fun h => by cases h), fun x hx i hi => ?_⟩
  cases hx
  match i, hi with
  | 0, _ =>
    refine ⟨by simp, v1, ?_, h1.below hb (Nat.le_refl _)⟩
    rw [add_eq]
    exact World.cell?_alloc_mark w #[v1, v2, v3] 22 (0, 0) 0
  | 1, _ =>
    refine ⟨by simp, v2, ?_, h2.below hb (Nat.le_refl _)⟩
    rw [add_eq]
    exact World.cell?_alloc_mark w #[v1, v2, v3] 22 (0, 0) 1
  | 2, _ =>
    refine ⟨by simp, v3, ?_, h3.below hb (Nat.le_refl _)⟩
    rw [add_eq]
    exact World.cell?_alloc_mark w #[v1, v2, v3] 22 (0, 0) 2

end Go.Proofs.Ytiapkfeamochfaa

/- Sum512 of rows. -/
set_option linter.unusedSimpArgs false
set_option linter.unusedVariables false
namespace Go.Proofs.Ytiapkfeamochfaa
open Go.RowKit Go.Deep

end Go.Proofs.Ytiapkfeamochfaa

/- What the document's sums need: a slice with both bounds, words out of a slice, sums of words. -/
set_option linter.unusedSimpArgs false
set_option linter.unusedVariables false
namespace Go.Proofs.Ytiapkfeamochfaa
open Go.RowKit Go.Deep

end Go.Proofs.Ytiapkfeamochfaa

/- The document's sums: the first sixteen words of a block. -/
set_option linter.unusedSimpArgs false
set_option linter.unusedVariables false
namespace Go.Proofs.Ytiapkfeamochfaa
open Go.RowKit Go.Deep

end Go.Proofs.Ytiapkfeamochfaa

/- The document's sums: the words that follow. -/
set_option linter.unusedSimpArgs false
set_option linter.unusedVariables false
namespace Go.Proofs.Ytiapkfeamochfaa
open Go.RowKit Go.Deep

end Go.Proofs.Ytiapkfeamochfaa

/- The document's sums: the rounds. -/
set_option linter.unusedSimpArgs false
set_option linter.unusedVariables false
namespace Go.Proofs.Ytiapkfeamochfaa
open Go.RowKit Go.Deep

end Go.Proofs.Ytiapkfeamochfaa

/- The document's sums: the state behind the rounds is added. -/
set_option linter.unusedSimpArgs false
set_option linter.unusedVariables false
namespace Go.Proofs.Ytiapkfeamochfaa
open Go.RowKit Go.Deep

end Go.Proofs.Ytiapkfeamochfaa

/- The document's own sums. -/
set_option linter.unusedSimpArgs false
set_option linter.unusedVariables false
namespace Go.Proofs.Ytiapkfeamochfaa
open Go.RowKit Go.Deep

end Go.Proofs.Ytiapkfeamochfaa

/- The document's HMAC and HKDF. -/
set_option linter.unusedSimpArgs false
set_option linter.unusedVariables false
namespace Go.Proofs.Ytiapkfeamochfaa
open Go.RowKit Go.Deep

set_option maxHeartbeats 800000 in
theorem refCat_any (v : Value) (L : List (List UInt8)) (w : World) (hv : Bss w v L) (hlen : L.flatten.length ≤ 2147483647) :
    Calls Try.prog 19 #[v] w fun e w' => ∃ v', e = .returned v' ∧ Owns w' w.heap.size v' L.flatten ∧ Below w.heap.size w w' := by
  have HV := Lib.hid hv
  obtain ⟨a, cap, rfl, h1, h2, h3, h4⟩ := hv
  clear h3 h4
  unfold maxLen at h2
  go_enter Try.func19, Try.ntmps19
  go_wp2
  generalize hn : L.flatten.length = n at *
  have HN := Lib.hid hn
  clear hn
  go_loopw [3, 4] (fun v i wr => ∃ j : Nat, j ≤ L.length ∧ i = .int .i64 j ∧ Owns wr w.heap.size v (catTo L j) ∧ Below w.heap.size w wr) (fun _ i _ => L.length - (intOf i).toNat)
  case atStart => exact ⟨0, Nat.zero_le _, rfl, Owns.nil _ _, Below.refl _ _⟩
  case round =>
    obtain ⟨j, hj, rfl, hown, hbel⟩ := hrel
    by_cases hlt : j < L.length
    · have hsum : (catTo L j).length + L[j].length ≤ n := by
        have := catTo_le L (j + 1)
        rw [catTo_succ L j hlt, List.length_append] at this
        have := HN.out
        omega
      obtain ⟨b, off, cap', he, _, _, hbl, hc⟩ := HV.out.open_cons (by omega)
      cases he
      obtain ⟨u, hcj, hu⟩ := hc j hlt
      clear hc
      have hcr : wr.cell? ⟨b, off + j, none⟩ = some u := (hbel.cell (by exact hbl)).trans hcj
      have hur : Bs wr u L[j] := hu.below hbel (Nat.le_refl _)
      have HU := Lib.hid hur
      obtain ⟨au, cu, rfl, _, _, _, _⟩ := hu
      clear hur
      go_wp2_with (refine wpList_app rfl _ _ rfl w.heap.size _ _ (catTo L j) L[j] hown HU.out rfl rfl (by omega) (by have := hbel.size; omega) ?_; intro v2 w2 hown2 hgrow2)
      have hown3 : Owns w2 w.heap.size v2 (catTo L (j + 1)) := by rw [catTo_succ L j hlt]; exact hown2
      have hbel3 : Below w.heap.size w w2 := hbel.grown hgrow2 hbel.size (Owns.block hown)
      clear hown2 hgrow2 hown hbel hcr HU hsum
      go_wp2
      go_roundw
      case rel => exact ⟨j + 1, by omega, by go_num, hown3, hbel3⟩
      case measure => simp [intOf]; omega
    · obtain rfl : j = L.length := by omega
      go_wp2
      go_ret
      exact ⟨_, rfl, by rw [← catTo_all L L.length (Nat.le_refl _)]; exact hown, hbel⟩

end Go.Proofs.Ytiapkfeamochfaa

/- AES of the document: Stream. -/
namespace Go.Proofs.Ytiapkfeamochfaa
open Go.RowKit Go.Deep
set_option linter.unusedSimpArgs false
set_option linter.unusedVariables false

/-- Till the last writer comes up, only what is new is laid. -/
def BelU (W : World) : Nat → World → Prop := fun _ w' => Below W.heap.size W w'
section
variable {P : Program} {ops : Array Oper} {Q : Exit → Act → World → Prop} {r : List (Nat × Option (List Nat))} {a : Act} {w W : World} {o : Oper} {i : Nat}
theorem lb_start {id : Nat} (r : List (Nat × Option (List Nat))) (hm : P.follows .mixedOrders = true) (hs : Region.noSelect ops = true) (hl : r.length ≤ ops.size)
    (hk : linsOk ops r (Array.replicate ops.size false) = true) (hQ : ∀ d v c a w, Q (.panic c) (Act.put a d v) w → Q (.panic c) a w)
    (h : LinS P ops Q r (BelU w.drew) a w.drew) : (Code.region id ops true).wp P Q a w :=
  wp_region_lins r (BelU w.drew) hm hs hl hk hQ (fun _ _ => Below.refl _ _) h
theorem lb_rd {c : Nat} {C : List Nat} {op : Op} {t : TypeId} (d : Nat) (v : Value) (ho : ops[i]? = some o) (hd : o.dst = some d) (hop : o.op = op) (ht : o.type = t) (hw : Region.wanted o (yielded ops a.tmps) = true)
    (hy : ∀ w', Below W.heap.size W w' → (execOp a.eval (mkOp op t)).run P w' = .ok (.value v) w') (h : LinS P ops Q r (BelU W) (a.put (some d) v) w) : LinS P ops Q ((i, some (c :: C)) :: r) (BelU W) a w :=
  lins_read d op t v ho hd hop ht hw (fun w' hw' => hy w' (hw' c List.mem_cons_self)) h
theorem lb_call {fn : Func} {f : Nat} {xs : Array Operand} {ts : Array TypeId} {args : Array Value} {X : Value → World → Prop} (d : Nat) (hW : Below W.heap.size W w) (hc : Calls P f args w fun e w' => ∃ v, e = .returned v ∧ X v w' ∧ Below w.heap.size w w')
    (ho : ops[i]? = some o) (hd : o.dst = some d) (hop : o.op = .call { callee := .value (.func f), args := xs, argTypes := ts })
    (hw : Region.wanted o (yielded ops a.tmps) = true) (hf : P.funcs[f]? = some fn) (hn : (fn.name == "runtime.NumGoroutine") = false) (hb : fn.body.isNone = false) (hargs : xs.map a.eval = args)
    (h : ∀ v w', X v w' → Below w.heap.size w w' → LinS P ops Q r (BelU W) (a.put (some d) v) w') : LinS P ops Q ((i, none) :: r) (BelU W) a w :=
  lins_fn (some d) f xs ts args hc ho hd hop hw hf hn hb hargs fun e w' hT => by
    obtain ⟨v, rfl, h1, h2⟩ := hT
    exact ⟨v, rfl, BelU W, fun c _ => ⟨hW.trans (h2.mono hW.size), fun _ h => h⟩, h v w' h1 h2⟩
end
section
variable {ops : Array Oper} {Q : Exit → Act → World → Prop} {r : List (Nat × Option (List Nat))} {a : Act} {w W : World} {o : Oper} {i : Nat}
theorem lb_rows2 {t : TypeId} (d : Nat) (x y : Operand) (hW : Below W.heap.size W w) (ho : ops[i]? = some o) (hd : o.dst = some d) (hop : o.op = .buildSlice 54 2 #[(0, x), (1, y)]) (ht : o.type = t)
    (hw : Region.wanted o (yielded ops a.tmps) = true) {v1 v2 : Value} {l1 l2 : List UInt8} (h1 : Bs w v1 l1) (h2 : Bs w v2 l2) (hx : a.eval x = v1) (hy : a.eval y = v2) (h : ∀ v w', Bss w' v [l1, l2] → Below w.heap.size w w' → LinS Try.prog ops Q r (BelU W) (a.put (some d) v) w') : LinS Try.prog ops Q ((i, none) :: r) (BelU W) a w :=
  have hb : Below w.heap.size w (w.alloc (.cells #[v1, v2] 22)) := (Below.refl _ _).alloc (Nat.le_refl _) _
  lins_made (some d) _ t _ _ ho hd hop ht hw (exec_rowsP2 a.eval x y t w h1 h2 hx hy) (BelU W) (fun _ _ => ⟨hW.trans (hb.mono hW.size), fun _ h => h⟩) (h _ _ (Bss.two h1 h2 rfl) hb)
theorem lb_app {R : Nat → World → Prop} {t : TypeId} (d : Nat) (s x : Operand) (hr : writers r = []) (ho : ops[i]? = some o) (hd : o.dst = some d) (hop : o.op = .call { callee := .builtin .append, args := #[s, x], argTypes := #[22, 22] }) (ht : o.type = t)
    (hw : Region.wanted o (yielded ops a.tmps) = true) (base : Nat) {v vb : Value} {l lb : List UInt8} (hown : Owns w base v l) (hb : Bs w vb lb) (hs : a.eval s = v) (hx : a.eval x = vb) (hlen : l.length + lb.length ≤ 2147483647) (hbase : base ≤ w.heap.size)
    (h : ∀ v' w', Owns w' base v' (l ++ lb) → w.grownBy w' v.ownBlock → (v'.ownBlock = v.ownBlock ∨ ∀ b, v'.ownBlock = some b → w.heap.size ≤ b) → LinS Try.prog ops Q r Any (a.put (some d) v') w') : LinS Try.prog ops Q ((i, none) :: r) R a w := by
  obtain ⟨v', w', hr', h1, h2, h3⟩ := exec_app a.eval s x t base v vb l lb hown hb hs hx hlen hbase
  exact lins_made (some d) _ t v' w' ho hd hop ht hw hr' Any (fun c hc => by rw [hr] at hc; cases hc) (h v' w' h1 h2 h3)
end
/-- The stream's first n blocks. -/
def outS (key nonce : List UInt8) : Nat → List UInt8
  | 0 => []
  | n + 1 => outS key nonce n ++ aesL key (nonce ++ bigB n 4)
theorem outS_len (key nonce : List UInt8) : ∀ n, (outS key nonce n).length = 16 * n
  | 0 => rfl
  | n + 1 => by rw [outS, List.length_append, outS_len key nonce n, aesL_len, Nat.mul_succ]
theorem bigB_len4 (n : Nat) : (bigB n 4).length = 4 := by simp [bigB]
theorem bigK_to (n : Nat) (w : World) (hn : n < 2 ^ 64) : Calls Try.prog 20 #[.int .u64 (n : Int), .int .i64 4] w fun e w' => ∃ v, e = .returned v ∧ Bs w' v (bigB n 4) ∧ Below w.heap.size w w' := refBig_any n 4 w hn (by decide) (by decide)
theorem catK_to (v : Value) (l m : List UInt8) (w : World) (hv : Bss w v [l, m]) (h : l.length + m.length ≤ 2147483647) : Calls Try.prog 19 #[v] w fun e w' => ∃ v', e = .returned v' ∧ Bs w' v' (l ++ m) ∧ Below w.heap.size w w' := by
  refine (refCat_any v [l, m] w hv (by simpa using h)).mono ?_
  rintro e w' ⟨v', rfl, ho, kk⟩
  exact ⟨v', rfl, by simpa using ho.bs, kk⟩
set_option maxHeartbeats 4000000 in
set_option maxRecDepth 20000 in
theorem refStream_any (v0 : Value) (l0 : List UInt8) (v1 : Value) (l1 : List UInt8) (n : Nat) (w : World) (h0 : Bs w v0 l0) (hl0 : l0.length = 32) (h1 : Bs w v1 l1) (hl1 : l1.length = 12) (hn : n ≤ 1048576) : Calls Try.prog 15 #[v0, v1, .int .i64 (n : Int)] w fun e w' => ∃ v, e = .returned (.tuple #[v, .int .i64 0]) ∧ Bs w' v ((outS l0 l1 ((n + 15) / 16)).take n) ∧ Below w.heap.size w w' := by
  obtain ⟨ad0, n0, c0, rfl, e0, y0, z0, hB0⟩ := h0.shape
  have d0 : n0 = 32 := by omega
  subst d0
  have f_s0 := hB0
  have HF_s0 := Lib.hid hB0
  have HL0 := Lib.hid hl0
  clear h0 hB0 e0 hl0
  obtain ⟨ad1, n1, c1, rfl, e1, y1, z1, hB1⟩ := h1.shape
  have d1 : n1 = 12 := by omega
  subst d1
  have f_s1 := hB1
  have HF_s1 := Lib.hid hB1
  have HL1 := Lib.hid hl1
  clear h1 hB1 e1 hl1
  have Bw0 := Below.refl w.heap.size w
  have HGS : Hid (∀ wq : World, Below w.heap.size w wq → w.heap.size ≤ wq.heap.size) := Lib.hid fun wq h => h.size
  have hnI : ¬ (n : Int) < 0 := by omega
  have hnJ : ¬ (1048576 : Int) < (n : Int) := by omega
  have HN := Lib.hid hn
  clear hn
  go_enter Try.func15, Try.ntmps15
  go_wp2_with (first
    | (have hgo := Bw0; clear hgo
       go_at_call 24
       refine (boxes_any _).mono ?_
       rintro e w19 ⟨rfl, kk⟩
       replace f_s0 := zfb f_s0 kk
       replace f_s1 := zfb f_s1 kk
       have Bw1 := zbt HGS Bw0 kk
       clear Bw0 kk)
    | (have hgo := Bw1; clear hgo
       refine wpList_alloc_row rfl 48 rfl 256 (cF .u8 fun _ => 0) zeroB256 ?_
       intro b_t8 w20 lk r_t8 kk
       have l_t8 := zrl HGS Bw1 lk
       have a_s0_t8 := Bs.away f_s0 lk
       have a_s1_t8 := Bs.away f_s1 lk
       replace f_s0 := zfb f_s0 kk
       replace f_s1 := zfb f_s1 kk
       have Bw2 := zbt HGS Bw1 kk
       clear Bw1 kk lk)
    | (have hgo := Bw2; clear hgo
       refine wpList_store_as rfl 48 (.tmp 8) (.tmp 28) rfl 256 (cF .u8 boxN) arrB256 r_t8 rfl rfl (by omega) (fun _ _ => rfl) (fun i hi => putN_whole hi) ?_
       intro w21 q gk
       replace r_t8 := q
       have Bw3 := zbg HGS Bw2 gk l_t8
       replace f_s0 := gb_bs f_s0 gk a_s0_t8
       replace f_s1 := gb_bs f_s1 gk a_s1_t8
       clear Bw2 gk q)
    | (have hgo := Bw3; clear hgo
       refine wpList_load_as rfl 48 (.tmp 8) rfl 256 (cF .u8 boxN) arrB256 r_t8 rfl (by omega) (fun i hi => by rw [Nat.zero_add]) ?_
       have Bw4 := Bw3
       clear Bw3)
    | (have hgo := Bw4; clear hgo
       go_at_call 26
       refine (refSchedule_any _ l0 _ f_s0 HL0.out).mono ?_
       rintro e w24 ⟨v_s31, rfl, o_s31, kk⟩
       replace r_t8 := zrb r_t8 kk
       replace f_s0 := zfb f_s0 kk
       replace f_s1 := zfb f_s1 kk
       have Bw5 := zbt HGS Bw4 kk
       clear Bw4 kk
       have f_s31 := o_s31.bs
       clear o_s31))
  obtain ⟨BS, hBS⟩ : ∃ n, n = w24.heap.size := ⟨_, rfl⟩
  have H48 : Hid (b_t8 < BS) := Lib.hid (by rw [hBS]; exact World.rowIs.lt r_t8)
  have HB0 : Hid (w.heap.size ≤ BS) := Lib.hid (by rw [hBS]; exact HGS.out _ Bw5)
  have hbs : BS ≤ w24.heap.size := by rw [hBS]; exact Nat.le_refl _
  have HF : Hid (∀ W', Below BS w24 W' → Bs W' v_s31 (schL l0)) := Lib.hid fun W' hb => f_s31.below hb (by rw [hBS]; exact Nat.le_refl _)
  have hb0 : Below BS w24 w24 := Below.refl _ _
  clear hBS hnI hnJ
  go_loopw [10, 11] (fun sv iv wr => ∃ (i : Nat) (v : Value), v = sv ∧ iv = .int .i64 (i : Int) ∧ 16 * i < n + 16 ∧ Owns wr BS v (outS l0 l1 i) ∧ wr.rowIs b_t8 48 256 (cF .u8 boxN) ∧ BS ≤ wr.heap.size ∧ Below BS w24 wr ∧ Below w.heap.size w wr) (fun _ iv _ => 65537 - (intOf iv).toNat)
  case atStart => exact ⟨0, _, rfl, rfl, by omega, Owns.nil _ _, r_t8, hbs, hb0, Bw5⟩
  case round =>
    clear r_t8 hbs hb0 Bw5 f_s31 f_s0 f_s1
    obtain ⟨i, v, rfl, rfl, hi, hown, r_t8, hbs, hb0, Bw0⟩ := hrel
    obtain ⟨ad5, n5, c5, rfl, e5, y5, z5, hB5⟩ := hown.bs.shape
    have hn5 : n5 = 16 * i := by rw [← e5]; exact outS_len _ _ _
    clear e5 y5 z5
    by_cases hlt : n5 < n
    · have hltI : (n5 : Int) < (n : Int) := by omega
      have hN := HN.out
      have hil : i < 65536 := by omega
      have HI64 : Hid (i < 2 ^ 64) := Lib.hid (Nat.lt_trans hil (by decide))
      have hw : IntKind.u64.wrap (i : Int) = (i : Int) := by rw [IntKind.wrap_u64]; omega
      obtain ⟨i1, hi1⟩ := nat_var (i + 1)
      have hwi : IntKind.i64.wrap ((i : Int) + 1) = (i1 : Int) := by rw [IntWalk.i64_in _ (by omega)]; omega
      have HI1 := Lib.hid hi1
      have HI2 : Hid (16 * (i + 1) < n + 16 ∧ i < 65536) := Lib.hid (by omega)
      have HLN : Hid ((outS l0 l1 i).length + (aesL l0 (l1 ++ bigB i 4)).length ≤ 2147483647) := Lib.hid (by rw [outS_len, aesL_len]; omega)
      have f_k := Bs.drew (HF.out _ hb0)
      have f_n := Bs.drew (HF_s1.out.below Bw0 (Nat.le_refl _))
      replace r_t8 := World.rowIs.drew r_t8
      have R8 := Lib.hid r_t8
      have HBS := Lib.hid hbs
      have HB := Lib.hid hb0
      replace hown := hown.drew
      replace hbs : BS ≤ wr.drew.heap.size := hbs
      have HW0 := Below.refl wr.drew.heap.size wr.drew
      clear hlt hn5 hi hi1 hil hN hB5 hb0
      go_wp2
      replace Bw0 := Bw0.drew
      refine lb_start [(0, some [10]), (1, some [9]), (2, some [9]), (3, some [7]), (4, some []), (5, some [6]), (6, none), (7, none), (8, none), (9, none), (10, none), (11, some [])] (by kernel_rfl) (by kernel_rfl) (by decide) (by kernel_rfl) (fun d _ _ _ _ h => by cases d <;> exact h) ?_
      refine lb_rd 38 (.slice ad5 n5 c5) rfl rfl rfl rfl rfl (fun wx hx => by unfold mkOp; go_simp; all_goals (with_reducible rfl)) ?_
      simp only [Act.put, zA, zB, zC]
      refine lb_rd 39 (v_s31) rfl rfl rfl rfl rfl (fun wx hx => by unfold mkOp; go_simp; all_goals (with_reducible rfl)) ?_
      simp only [Act.put, zA, zB, zC]
      refine lb_rd 40 (.agg (arrOf 256 (cF .u8 boxN))) rfl rfl rfl rfl rfl (fun wx hx => exec_load_as _ _ _ _ (cF .u8 boxN) rfl arrB256 (World.rowIs.of_block R8.out (hx.block _ (World.rowIs.lt R8.out))) (by omega) (fun i hi => by rw [Nat.zero_add])) ?_
      simp only [Act.put, zA, zB, zC]
      refine lb_rd 41 (.slice ad1 12 c1) rfl rfl rfl rfl rfl (fun wx hx => by unfold mkOp; go_simp; all_goals (with_reducible rfl)) ?_
      simp only [Act.put, zA, zB, zC]
      refine le_rdA 42 (.int .i64 (i : Int)) rfl rfl rfl rfl rfl (fun wx => by unfold mkOp; go_simp; all_goals (with_reducible rfl)) ?_
      simp only [Act.put, zA, zB, zC]
      refine lb_rd 43 (.int .u64 (i : Int)) rfl rfl rfl rfl rfl (fun wx hx => by unfold mkOp; go_simp; all_goals (with_reducible rfl)) ?_
      simp only [Act.put, zA, zB, zC]
      refine lb_call 44 HW0 (bigK_to i _ HI64.out) rfl rfl rfl rfl Try.func20 (by kernel_rfl) (by kernel_rfl) (by go_simp) ?_
      intro v_c w5 f_c kk
      replace hown := Owns.belowJ hown kk
      replace f_k := zfb f_k kk
      replace f_n := zfb f_n kk
      replace r_t8 := zrb r_t8 kk
      replace hbs := Nat.le_trans hbs kk.size
      have HW1 := HW0.trans (kk.mono HW0.size)
      have Bw1 := zbt HGS Bw0 kk
      clear Bw0 HW0 kk
      simp only [Act.put, zA, zB, zC]
      refine lb_rows2 45 (.tmp 41) (.tmp 44) HW1 rfl rfl rfl rfl rfl f_n f_c rfl rfl ?_
      intro v_r w6 F_r kk
      replace hown := Owns.belowJ hown kk
      replace f_k := zfb f_k kk
      replace f_n := zfb f_n kk
      replace r_t8 := zrb r_t8 kk
      replace hbs := Nat.le_trans hbs kk.size
      have HW2 := HW1.trans (kk.mono HW1.size)
      have Bw2 := zbt HGS Bw1 kk
      clear Bw1 HW1 kk
      simp only [Act.put, zA, zB, zC]
      refine lb_call 46 HW2 (catK_to _ _ _ _ F_r (by rw [HL1.out, bigB_len4]; decide)) rfl rfl rfl rfl Try.func19 (by kernel_rfl) (by kernel_rfl) (by go_simp) ?_
      intro v_m w7 f_m kk
      replace hown := Owns.belowJ hown kk
      replace f_k := zfb f_k kk
      replace f_n := zfb f_n kk
      replace r_t8 := zrb r_t8 kk
      replace hbs := Nat.le_trans hbs kk.size
      have HW3 := HW2.trans (kk.mono HW2.size)
      have Bw3 := zbt HGS Bw2 kk
      clear Bw2 HW2 kk
      simp only [Act.put, zA, zB, zC]
      refine lb_call 47 HW3 (blockW_to _ _ _ l0 _ _ rfl HL0.out f_k f_m (by rw [List.length_append, HL1.out, bigB_len4])) rfl rfl rfl rfl Try.func25 (by kernel_rfl) (by kernel_rfl) (by go_simp) ?_
      intro v_b w8 f_b kk
      replace hown := Owns.belowJ hown kk
      replace f_k := zfb f_k kk
      replace f_n := zfb f_n kk
      replace r_t8 := zrb r_t8 kk
      replace hbs := Nat.le_trans hbs kk.size
      have HW4 := HW3.trans (kk.mono HW3.size)
      have Bw4 := zbt HGS Bw3 kk
      clear Bw3 HW3 kk
      simp only [Act.put, zA, zB, zC]
      refine lb_app 48 (.tmp 38) (.tmp 47) rfl rfl rfl rfl rfl rfl BS hown f_b rfl rfl HLN.out hbs ?_
      intro v3 w9 hown3 g9 _
      simp only [Act.put, zA, zB, zC]
      refine le_rdA 10 (v3) rfl rfl rfl rfl rfl (fun wx => by unfold mkOp; go_simp; all_goals (with_reducible rfl)) ?_
      simp only [Act.put, zA, zB, zC]
      refine le_end ?_
      have hown4 : Owns w9 BS v3 (outS l0 l1 (i + 1)) := hown3
      replace r_t8 := World.rowIs.of_block r_t8 (g9.block _ (World.rowIs.lt r_t8) (fun e => absurd (Owns.block hown _ e.symm) (Nat.not_le_of_lt H48.out)))
      have hb9 := (HB.out.drew.trans (HW4.mono HBS.out)).grown g9 hbs (fun j hj => Owns.block hown j hj)
      have Bw9 := Bw4.grown g9 (HGS.out _ Bw4) (fun j hj => Nat.le_trans HB0.out (Owns.block hown j hj))
      replace hbs := Nat.le_trans hbs g9.size
      clear Bw4 HW4 g9 hown hown3 f_k f_n f_b hw hltI
      go_wp2
      go_roundw
      case rel => exact ⟨i + 1, v3, rfl, by rw [HI1.out], HI2.out.1, hown4, r_t8, hbs, hb9, Bw9⟩
      case measure => (have := HI2.out; have := HI1.out; simp [intOf]; try omega)
    · have hltI : ¬ (n5 : Int) < (n : Int) := by omega
      have hie : i = (n + 15) / 16 := by omega
      subst hie
      have hnl : n ≤ (outS l0 l1 ((n + 15) / 16)).length := by rw [outS_len]; omega
      obtain ⟨v_o, f_o, hro⟩ := takeB hB5 n hnl
      clear hlt hn5 hi hnl
      go_wp2_with (refine wpList_value rfl _ (by rw [exec_mkOp]; exact hro _ _ _ _ _ rfl rfl) ?_)
      go_ret2
      exact ⟨_, rfl, f_o, Bw0⟩
end Go.Proofs.Ytiapkfeamochfaa

/- The program's AES: a block. -/
namespace Go.Proofs.Ytiapkfeamochfaa
open Go.RowKit Go.Deep
set_option linter.unusedSimpArgs false
set_option linter.unusedVariables false

theorem run_make0x (n : Nat) (hn : n ≤ 1000000) (w : World) : (Instr.makeSlice 22 (.int .i64 0) (.int .i64 (n : Int))).run Try.prog w = .ok (.slice (some ⟨w.heap.size, 0, none⟩) 0 n) (w.alloc (.cells (madeCells #[.int .u8 0] n) 5)) := by
  obtain ⟨i, hi, hzz⟩ := Option.map_eq_some_iff.1 (show (Try.prog.info? 5).map (fun i => (i.zero, i.size, i.bytes)) = some (some (.int .u8 0), 1, 1) from Try.info5)
  simp only [Prod.mk.injEq] at hzz
  obtain ⟨hz, hs, hb⟩ := hzz
  have hr := run_make (P := Try.prog) w 22 5 i (.int .u8 0) Try.underlying22 hi hz .i64 .i64 0 (n : Int) (by decide) (by omega) (by rw [hb]; omega) (by omega)
  simp only [Int.toNat_natCast, hs, Nat.mul_one] at hr
  exact hr
theorem wpList_make0x {ops : Array Oper} {rest : List Oper} {o : Oper} {a : Act} {w : World} {Q : Exit → Act → World → Prop} (hgd : o.guard = none) (x : Operand) (ho : o.op = .makeSlice 22 (.const (.int .i64 0)) x) (n : Nat) (hx : a.eval x = .int .i64 (n : Int)) (hn : n ≤ 1000000)
    (h : ∀ b v w', w.heap.size ≤ b → b < w'.heap.size → Owns w' b v [] → Below w.heap.size w w' → wpList Try.prog ops Q rest (a.put o.dst v) w') : wpList Try.prog ops Q (o :: rest) a w := by
  have hr := run_make0x n hn w
  have hx' : (execOp a.eval (mkOp (.makeSlice 22 (.const (.int .i64 0)) x) o.type)).run Try.prog w = .ok (.value (.slice (some ⟨w.heap.size, 0, none⟩) 0 n)) (w.alloc (.cells (madeCells #[.int .u8 0] n) 5)) := by
    simp [execOp, mkOp, hx, hr, Result.andThen, show ∀ v : Value, a.eval (.const v) = v from fun _ => rfl]
  exact wpList_plain hgd fun _ hK => by
    unfold Oper.wp
    rw [exec_mkOp, ho, hx']
    exact hK _ _ (h _ _ _ (Nat.le_refl _) (by simp) (World.ownsRow_made w _ n (Nat.le_refl _) (by unfold maxLen; omega) (by simp [madeCells])) ((Below.refl _ _).alloc (Nat.le_refl _) _))
/-- The first words of a state, as bytes. -/
def outB (A : Nat → Nat) (k : Nat) : List UInt8 := (List.range (4 * k)).map fun j => UInt8.ofNat (A j)
theorem outB_len (A : Nat → Nat) (k : Nat) : (outB A k).length = 4 * k := by simp [outB]
theorem u8_mod (n : Nat) : UInt8.ofNat (n % 256) = UInt8.ofNat n := by
  apply UInt8.toNat_inj.1
  simp
theorem bigB_wd (A : Nat → Nat) (hA : ∀ j, A j < 256) (k : Nat) : bigB (wd A k) 4 = [UInt8.ofNat (A (4 * k)), UInt8.ofNat (A (4 * k + 1)), UInt8.ofNat (A (4 * k + 2)), UInt8.ofNat (A (4 * k + 3))] := by
  have h := w4_parts (hA (4 * k)) (hA (4 * k + 1)) (hA (4 * k + 2)) (hA (4 * k + 3))
  show [UInt8.ofNat (wd A k / 16777216), UInt8.ofNat (wd A k / 65536), UInt8.ofNat (wd A k / 256), UInt8.ofNat (wd A k / 1)] = _
  unfold wd
  rw [h.1, Nat.div_one, ← u8_mod (w4 _ _ _ _ / 65536), ← u8_mod (w4 _ _ _ _ / 256), ← u8_mod (w4 _ _ _ _), h.2.1, h.2.2.1, h.2.2.2]
theorem outB_step (A : Nat → Nat) (hA : ∀ j, A j < 256) (k : Nat) : outB A (k + 1) = outB A k ++ bigB (wd A k) 4 := by
  unfold outB
  rw [bigB_wd A hA, show 4 * (k + 1) = 4 * k + 1 + 1 + 1 + 1 by omega, List.range_succ, List.range_succ, List.range_succ, List.range_succ]
  simp
theorem outB_all (A : Nat → Nat) : outB A 4 = blkL A := rfl
set_option maxHeartbeats 4000000 in
set_option maxRecDepth 20000 in
theorem pblock_any (b : Nat) (key : List UInt8) (v1 : Value) (l1 : List UInt8) (w : World) (hR : w.rowIs b 57 316 (ciF boxN (wd (nB (schL key))))) (h1 : Bs w v1 l1) (hl : l1.length = 16) : Calls Try.prog 23 #[.pointer (some ⟨b, 0, none⟩), v1] w fun e w' => ∃ v, e = .returned v ∧ Bs w' v (aesL key l1) ∧ Below w.heap.size w w' := by
  have Bw0 := Below.refl w.heap.size w
  have HGS : Hid (∀ wq : World, Below w.heap.size w wq → w.heap.size ≤ wq.heap.size) := Lib.hid fun wq h => h.size
  have HR := Lib.hid hR
  have HF1 := Lib.hid h1
  have HL := Lib.hid hl
  obtain ⟨WV, hWV⟩ : ∃ W, W = nB (schL key) := ⟨_, rfl⟩
  obtain ⟨RES, hRES⟩ : ∃ R, R = aesL key l1 := ⟨_, rfl⟩
  rw [← hRES]
  have HRES : Hid (RES = blkL (stN (nB l1) WV 14)) := Lib.hid (by rw [hRES, hWV]; rfl)
  rw [← hWV] at HR
  have HWL : Hid (∀ j, WV j < 256) := Lib.hid (by rw [hWV]; exact nB_lt _)
  have HCW : Hid (∀ j, j < 60 → ciF boxN (wd WV) (256 + j) = .int .u32 ((wd WV j : Nat) : Int)) := Lib.hid fun j _ => ci_word _ _ j
  have HCB : Hid (∀ j, j < 256 → ciF boxN (wd WV) j = .int .u8 ((boxN j : Nat) : Int)) := Lib.hid fun j hj => ci_box _ _ j hj
  clear hR h1 hl hWV hRES
  go_enter Try.func23, Try.ntmps23
  go_wp2_with (first
    | (have hgo := Bw0; clear hgo
       refine wpList_alloc_row rfl 63 rfl 4 (cF .u32 fun _ => 0) zeroSt ?_
       intro b_t5 w1 lk r_t5 kk
       have l_t5 := zrl HGS Bw0 lk
       have Bw1 := zbt HGS Bw0 kk
       clear Bw0 kk lk))
  go_loopw [11] (fun iv wr => ∃ i : Nat, i ≤ 4 ∧ iv = .int .i64 (i : Int) ∧ wr.rowIs b_t5 63 4 (cF .u32 (upN (wd (nB l1)) (fun _ => 0) i)) ∧ Below w.heap.size w wr) (fun iv _ => 4 - (intOf iv).toNat)
  case atStart => exact ⟨0, by decide, rfl, by rw [upN_zero]; exact r_t5, Bw1⟩
  case round =>
    clear r_t5 Bw1
    obtain ⟨i, hi, rfl, r_t5, Bw0⟩ := hrel
    by_cases hlt : i < 4
    · have hiI : 0 ≤ (i : Int) ∧ (i : Int) < 4 := by omega
      have HI := Lib.hid hlt
      obtain ⟨m, hm⟩ := nat_var (4 * i)
      have hw1 : IntKind.i64.wrap (4 * (i : Int)) = (m : Int) := by rw [IntWalk.i64_in _ (by omega)]; omega
      obtain ⟨x, hx⟩ := nat_var (numB (l1.drop m) 4)
      have HZ : Hid (wd (nB l1) i = x) := Lib.hid (by rw [hx, hm, numB_wd])
      have f_k := HF1.out.below Bw0 (Nat.le_refl _)
      obtain ⟨v_s, f_s, hrs⟩ := dropB f_k m (by rw [HL.out]; omega)
      have HRS := Lib.hid hrs
      have HG : Hid (Calls Try.prog 31 #[v_s] wr fun e w' => e = .returned (.int .u32 (x : Int)) ∧ w' = wr) := Lib.hid (by rw [hx]; exact get32_any _ _ _ f_s)
      clear hm hx hi hlt f_k f_s hrs
      go_wp2_with (first
        | (have hgo := HRS; clear hgo
           refine wpList_value rfl _ (by rw [exec_mkOp]; exact HRS.out _ _ _ _ _ rfl rfl) ?_
           clear HRS)
        | (have hgo := HG; clear hgo
           go_at_call 31
           refine HG.out.mono ?_
           clear HG
           rintro e w5 ⟨rfl, rfl⟩)
        | (have hgo := HZ; clear hgo
           refine wpList_store_c rfl 53 (.tmp 20) (.tmp 19) rfl (upN (wd (nB l1)) (fun _ => 0) (i + 1)) r_t5 HI.out rfl rfl (by kernel_rfl) (upN_stepC _ _ i x 4 HZ.out) ?_
           intro w6 q6 g6
           have Bw1 := zbg HGS Bw0 g6 l_t5
           clear Bw0 g6 r_t5 HZ))
      go_roundw
      case rel => exact ⟨i + 1, HI.out, by have := HI.out; go_num, q6, Bw1⟩
      case measure => (have := HI.out; simp [intOf]; try omega)
    · obtain rfl : i = 4 := by omega
      replace r_t5 := cF_all r_t5
      have K0 : Hid (∀ w1, w1.rowIs b 57 316 (ciF boxN (wd WV)) → Calls Try.prog 35 #[.pointer (some ⟨b, 0, none⟩), .agg (arrOf 4 (cF .u32 (wd (nB l1)))), .int .i64 0] w1 fun e w' => e = .returned (.agg (arrOf 4 (cF .u32 (wd (stN (nB l1) WV 0))))) ∧ Below w1.heap.size w1 w') := Lib.hid fun w1 h =>
        addKey_any b _ (nB l1) WV 0 w1 h HCW.out (nB_lt _) HWL.out (by decide)
      clear hi hlt
      go_wp2_with (first
        | (have hgo := Bw0; clear hgo
           refine wpList_load_as rfl 63 (.tmp 5) rfl 4 (cF .u32 (wd (nB l1))) arrSt r_t5 rfl (by omega) (fun i hi => by rw [Nat.zero_add]) ?_
           have Bw1 := Bw0
           clear Bw0)
        | (have hgo := Bw1; clear hgo
           go_at_call 35
           refine (K0.out _ (zrb HR.out Bw1)).mono ?_
           rintro e w1 ⟨rfl, kk⟩
           replace r_t5 := zrb r_t5 kk
           have Bw2 := zbt HGS Bw1 kk
           clear Bw1 kk)
        | (have hgo := Bw2; clear hgo
           refine wpList_store_as rfl 63 (.tmp 5) (.tmp 24) rfl 4 (cF .u32 (wd (stN (nB l1) WV 0))) arrSt r_t5 rfl rfl (by omega) (fun _ _ => rfl) (fun i hi => putN_whole hi) ?_
           intro w2 q gk
           replace r_t5 := q
           have Bw3 := zbg HGS Bw2 gk l_t5
           clear Bw2 gk q))
      clear K0
      go_loopw [7] (fun iv wr => ∃ n : Nat, n ≤ 13 ∧ iv = .int .i64 ((n + 1 : Nat) : Int) ∧ wr.rowIs b_t5 63 4 (cF .u32 (wd (stN (nB l1) WV n))) ∧ Below w.heap.size w wr) (fun iv _ => 14 - (intOf iv).toNat)
      case atStart => exact ⟨0, by decide, rfl, r_t5, Bw3⟩
      case round =>
        clear r_t5 Bw3
        obtain ⟨n, hn, rfl, r_t5, Bw0⟩ := hrel
        obtain ⟨A, hA⟩ : ∃ A, A = stN (nB l1) WV n := ⟨_, rfl⟩
        have hAL : ∀ j, A j < 256 := by rw [hA]; exact stN_lt _ _ (nB_lt _) HWL.out n
        obtain ⟨k, hk⟩ := nat_var (n + 1)
        obtain ⟨SB, hSB⟩ : ∃ S, S = shN A := ⟨_, rfl⟩
        have hSBL : ∀ j, SB j < 256 := by rw [hSB]; exact shN_lt A
        have H1 : Hid (∀ w1, Calls Try.prog 38 #[.agg (arrOf 4 (cF .u32 (wd A)))] w1 fun e w' => e = .returned (.agg (arrOf 4 (cF .u32 (wd (shR A))))) ∧ Below w1.heap.size w1 w') := Lib.hid fun w1 => shift_any A w1 hAL
        have H2 : Hid (∀ w1, w1.rowIs b 57 316 (ciF boxN (wd WV)) → Calls Try.prog 37 #[.pointer (some ⟨b, 0, none⟩), .agg (arrOf 4 (cF .u32 (wd (shR A))))] w1 fun e w' => e = .returned (.agg (arrOf 4 (cF .u32 (wd SB)))) ∧ Below w1.heap.size w1 w') := Lib.hid fun w1 h => by
          rw [hSB]
          exact subst_any b _ (shR A) w1 h HCB.out (shR_lt A hAL)
        rw [← hA] at r_t5
        rw [← hk]
        by_cases hlt : n < 13
        · have hkI : (k : Int) < 14 := by omega
          obtain ⟨MX, hMX⟩ : ∃ M, M = mixN SB := ⟨_, rfl⟩
          have hMXL : ∀ j, MX j < 256 := by rw [hMX]; exact mixN_lt _ hSBL
          have H3 : Hid (∀ w1, Calls Try.prog 36 #[.agg (arrOf 4 (cF .u32 (wd SB)))] w1 fun e w' => e = .returned (.agg (arrOf 4 (cF .u32 (wd MX)))) ∧ Below w1.heap.size w1 w') := Lib.hid fun w1 => by
            rw [hMX]
            exact mix_any SB w1 hSBL
          have hNX : stN (nB l1) WV (n + 1) = arkN MX WV k := by
            show arkN (if n + 1 < 14 then mixN (shN (stN (nB l1) WV n)) else shN (stN (nB l1) WV n)) WV (n + 1) = _
            rw [if_pos (by omega), ← hA, ← hSB, ← hMX, ← hk]
          obtain ⟨NX, hN⟩ : ∃ N, N = stN (nB l1) WV (n + 1) := ⟨_, rfl⟩
          have H4 : Hid (∀ w1, w1.rowIs b 57 316 (ciF boxN (wd WV)) → Calls Try.prog 35 #[.pointer (some ⟨b, 0, none⟩), .agg (arrOf 4 (cF .u32 (wd MX))), .int .i64 (k : Int)] w1 fun e w' => e = .returned (.agg (arrOf 4 (cF .u32 (wd NX)))) ∧ Below w1.heap.size w1 w') := Lib.hid fun w1 h => by
            rw [hN, hNX]
            exact addKey_any b _ MX WV k w1 h HCW.out hMXL HWL.out (by omega)
          have HN := Lib.hid hN
          obtain ⟨k2, hk2⟩ := nat_var (k + 1)
          have hw1 : IntKind.i64.wrap ((k : Int) + 1) = (k2 : Int) := by rw [IntWalk.i64_in _ (by omega)]; omega
          have HK : Hid (k2 = n + 1 + 1 ∧ n + 1 ≤ 13 ∧ k = n + 1) := Lib.hid (by omega)
          clear hA hAL hk hSB hSBL hMX hMXL hNX hN hk2 hn hlt
          go_wp2_with (first
            | (have hgo := Bw0; clear hgo
               refine wpList_load_as rfl 63 (.tmp 5) rfl 4 (cF .u32 (wd A)) arrSt r_t5 rfl (by omega) (fun i hi => by rw [Nat.zero_add]) ?_
               have Bw1 := Bw0
               clear Bw0)
            | (have hgo := Bw1; clear hgo
               go_at_call 38
               refine (H1.out _).mono ?_
               rintro e w1 ⟨rfl, kk⟩
               replace r_t5 := zrb r_t5 kk
               have Bw2 := zbt HGS Bw1 kk
               clear Bw1 kk)
            | (have hgo := Bw2; clear hgo
               go_at_call 37
               refine (H2.out _ (zrb HR.out Bw2)).mono ?_
               rintro e w2 ⟨rfl, kk⟩
               replace r_t5 := zrb r_t5 kk
               have Bw3 := zbt HGS Bw2 kk
               clear Bw2 kk)
            | (have hgo := Bw3; clear hgo
               go_at_call 36
               refine (H3.out _).mono ?_
               rintro e w3 ⟨rfl, kk⟩
               replace r_t5 := zrb r_t5 kk
               have Bw4 := zbt HGS Bw3 kk
               clear Bw3 kk)
            | (have hgo := Bw4; clear hgo
               go_at_call 35
               refine (H4.out _ (zrb HR.out Bw4)).mono ?_
               rintro e w4 ⟨rfl, kk⟩
               replace r_t5 := zrb r_t5 kk
               have Bw5 := zbt HGS Bw4 kk
               clear Bw4 kk)
            | (have hgo := Bw5; clear hgo
               refine wpList_store_as rfl 63 (.tmp 5) (.tmp 36) rfl 4 (cF .u32 (wd NX)) arrSt r_t5 rfl rfl (by omega) (fun _ _ => rfl) (fun i hi => putN_whole hi) ?_
               intro w5 q gk
               replace r_t5 := q
               have Bw6 := zbg HGS Bw5 gk l_t5
               clear Bw5 gk q))
          go_roundw
          case rel => exact ⟨n + 1, HK.out.2.1, by rw [HK.out.1], by rw [← HN.out]; exact r_t5, Bw6⟩
          case measure => (have := HK.out; simp [intOf]; try omega)
        · have hkI : ¬ (k : Int) < 14 := by omega
          obtain rfl : n = 13 := by omega
          have hNX : stN (nB l1) WV 14 = arkN SB WV 14 := by
            show arkN (if 13 + 1 < 14 then mixN (shN (stN (nB l1) WV 13)) else shN (stN (nB l1) WV 13)) WV (13 + 1) = _
            rw [if_neg (by decide), ← hA, ← hSB]
          obtain ⟨NX, hN⟩ : ∃ N, N = stN (nB l1) WV 14 := ⟨_, rfl⟩
          have H4 : Hid (∀ w1, w1.rowIs b 57 316 (ciF boxN (wd WV)) → Calls Try.prog 35 #[.pointer (some ⟨b, 0, none⟩), .agg (arrOf 4 (cF .u32 (wd SB))), .int .i64 14] w1 fun e w' => e = .returned (.agg (arrOf 4 (cF .u32 (wd NX)))) ∧ Below w1.heap.size w1 w') := Lib.hid fun w1 h => by
            rw [hN, hNX]
            exact addKey_any b _ SB WV 14 w1 h HCW.out hSBL HWL.out (by decide)
          have HN : Hid (RES = blkL NX) := Lib.hid (by rw [hN]; exact HRES.out)
          have HNL : Hid (∀ j, NX j < 256) := Lib.hid (by rw [hN]; exact stN_lt _ _ (nB_lt _) HWL.out 14)
          clear hA hAL hk hSB hSBL hNX hN hn hlt HRES
          go_wp2_with (first
            | (have hgo := Bw0; clear hgo
               refine wpList_load_as rfl 63 (.tmp 5) rfl 4 (cF .u32 (wd A)) arrSt r_t5 rfl (by omega) (fun i hi => by rw [Nat.zero_add]) ?_
               have Bw1 := Bw0
               clear Bw0)
            | (have hgo := Bw1; clear hgo
               go_at_call 38
               refine (H1.out _).mono ?_
               rintro e w1 ⟨rfl, kk⟩
               replace r_t5 := zrb r_t5 kk
               have Bw2 := zbt HGS Bw1 kk
               clear Bw1 kk)
            | (have hgo := Bw2; clear hgo
               go_at_call 37
               refine (H2.out _ (zrb HR.out Bw2)).mono ?_
               rintro e w2 ⟨rfl, kk⟩
               replace r_t5 := zrb r_t5 kk
               have Bw3 := zbt HGS Bw2 kk
               clear Bw2 kk)
            | (have hgo := Bw3; clear hgo
               go_at_call 35
               refine (H4.out _ (zrb HR.out Bw3)).mono ?_
               rintro e w3 ⟨rfl, kk⟩
               replace r_t5 := zrb r_t5 kk
               have Bw4 := zbt HGS Bw3 kk
               clear Bw3 kk)
            | (have hgo := Bw4; clear hgo
               refine wpList_store_as rfl 63 (.tmp 5) (.tmp 42) rfl 4 (cF .u32 (wd NX)) arrSt r_t5 rfl rfl (by omega) (fun _ _ => rfl) (fun i hi => putN_whole hi) ?_
               intro w4 q gk
               replace r_t5 := q
               have Bw5 := zbg HGS Bw4 gk l_t5
               clear Bw4 gk q)
            | (have hgo := Bw5; clear hgo
               refine wpList_make0x rfl (.const (.int .i64 16)) rfl 16 rfl (by decide) ?_
               intro b_m v_m w20 lk _ o_m kk
               have hl0 := Nat.le_trans (HGS.out _ Bw5) lk
               replace r_t5 := zrb r_t5 kk
               replace o_m := Owns.lower o_m hl0
               have Bw6 := zbt HGS Bw5 kk
               clear Bw5 kk hl0 lk)
            | (have hgo := Bw6; clear hgo
               refine wpList_load_as rfl 63 (.tmp 5) rfl 4 (cF .u32 (wd NX)) arrSt r_t5 rfl (by omega) (fun i hi => by rw [Nat.zero_add]) ?_
               have Bw7 := Bw6
               clear Bw6))
          clear H1 H2 H4 r_t5
          go_loopw [8, 45] (fun sv iv wr => ∃ (i : Nat) (v : Value), i ≤ 4 ∧ v = sv ∧ iv = .int .i64 (i : Int) ∧ Owns wr w.heap.size v (outB NX i) ∧ Below w.heap.size w wr) (fun _ iv _ => 4 - (intOf iv).toNat)
          case atStart => exact ⟨0, v_m, by decide, rfl, rfl, o_m, Bw7⟩
          case round =>
            clear o_m Bw7
            obtain ⟨i, v, hi, rfl, rfl, hown, Bw0⟩ := hrel
            by_cases hlt : i < 4
            · have hiI : 0 ≤ (i : Int) ∧ (i : Int) < 4 := by omega
              have HI := Lib.hid hlt
              obtain ⟨x, hx⟩ := nat_var (wd NX i)
              have HX : Hid (wd NX i = x) := Lib.hid hx.symm
              have HXL : Hid (x < 2 ^ 32) := Lib.hid (by rw [hx]; exact wd_lt HNL.out i)
              have HST : Hid (outB NX (i + 1) = outB NX i ++ bigB x 4) := Lib.hid (by rw [hx]; exact outB_step NX HNL.out i)
              have HLN : Hid ((outB NX i).length + (bigB x 4).length ≤ 2147483647) := Lib.hid (by rw [outB_len, bigB_len4]; omega)
              clear hx hi hlt
              go_wp2_with (first
                | (have hgo := HX; clear hgo
                   refine wpList_index_c rfl 63 53 (.tmp 44) (.tmp 45) rfl 4 (by kernel_rfl) _ rfl rfl (by kernel_rfl) rfl rfl HI.out HX.out ?_
                   clear HX)
                | (have hgo := Bw0; clear hgo
                   go_at_call 29
                   refine (put32_any x _ HXL.out).mono ?_
                   rintro e w5 ⟨v_p, rfl, f_p, kk⟩
                   replace hown := Owns.belowJ hown kk
                   have Bw1 := zbt HGS Bw0 kk
                   clear Bw0 kk)
                | (have hgo := Bw1; clear hgo
                   refine wpList_appA rfl (.tmp 48) (.tmp 50) rfl w.heap.size _ _ _ (bigB x 4) hown f_p rfl rfl HLN.out (HGS.out _ Bw1) ?_
                   intro v8 w6 o8 g8 ho8
                   have Bw2 := Bw1.grown g8 (HGS.out _ Bw1) (fun j hj => Owns.block hown j hj)
                   rw [← HST.out] at o8
                   clear Bw1 g8 ho8 hown f_p))
              go_roundw
              case rel => exact ⟨i + 1, v8, HI.out, rfl, by have := HI.out; go_num, o8, Bw2⟩
              case measure => (have := HI.out; simp [intOf]; try omega)
            · obtain rfl : i = 4 := by omega
              clear hi hlt
              go_wp2
              go_ret
              refine ⟨_, rfl, ?_, Bw0⟩
              have h := hown.bs
              rw [outB_all] at h
              rw [HN.out]
              exact h
end Go.Proofs.Ytiapkfeamochfaa

/- The program's AES: Block, Stream, Crypt. -/
namespace Go.Proofs.Ytiapkfeamochfaa
open Go.RowKit Go.Deep
set_option linter.unusedSimpArgs false
set_option linter.unusedVariables false

theorem lb_copy {ops : Array Oper} {Q : Exit → Act → World → Prop} {i : Nat} {r : List (Nat × Option (List Nat))} {R : Nat → World → Prop} {a : Act} {w : World} {o : Oper} (d : Nat) (x y : Operand) (t : TypeId) (hw0 : writers r = []) (ho : ops[i]? = some o) (hd : o.dst = some d)
    (hop : o.op = .call { callee := .builtin .copy, args := #[x, y], argTypes := #[22, 22] }) (ht : o.type = t) (hw : Region.wanted o (yielded ops a.tmps) = true)
    {b m off dLen dCap : Nat} {t' : TypeId} {f : Nat → Value} (hr : w.rowIs b t' m f) {vb : Value} {l : List UInt8} (hB : Bs w vb l) (hx : a.eval x = .slice (some ⟨b, off, none⟩) dLen dCap) (hy : a.eval y = vb) (hfit : off + dLen ≤ m) (n : Nat) (hn : n = Nat.min l.length dLen)
    (h : ∀ w', w'.rowIs b t' m (putN f off n (bytesAt l)) → w.grownBy w' (some b) → LinS Try.prog ops Q r Any (a.put (some d) (.int .i64 (n : Int))) w') :
    LinS Try.prog ops Q ((i, none) :: r) R a w :=
  lins_copy (some d) x y t ho hd hop ht hw hr hB hx hy hfit n hn fun w' h1 h2 _ => ⟨Any, (fun c hc => by rw [hw0] at hc; cases hc), h w' h1 h2⟩
theorem wpList_makeN {ops : Array Oper} {rest : List Oper} {o : Oper} {a : Act} {w : World} {Q : Exit → Act → World → Prop} (hgd : o.guard = none) (x : Operand) (ho : o.op = .makeSlice 22 x x) (n : Nat) (hx : a.eval x = .int .i64 (n : Int)) (hn : n ≤ 2147483647)
    (h : ∀ b w', w.heap.size ≤ b → w'.rowIs b 5 n (cF .u8 fun _ => 0) → Below w.heap.size w w' → wpList Try.prog ops Q rest (a.put o.dst (.slice (some ⟨b, 0, none⟩) n n)) w') : wpList Try.prog ops Q (o :: rest) a w := by
  have hm := run_make_row' (P := Try.prog) 22 5 (.int .u8 0) 1 Try.underlying22 Try.info5 rfl .i64 .i64 n (by omega) (by omega) w
  have hr : (execOp a.eval (mkOp (.makeSlice 22 x x) o.type)).run Try.prog w = .ok (.value (.slice (some ⟨w.heap.size, 0, none⟩) n n)) (w.alloc (.cells (madeCells #[.int .u8 0] n) 5)) := by
    simp [execOp, mkOp, hx, hm, Result.andThen]
  exact wpList_plain hgd fun _ hK => by
    unfold Oper.wp
    rw [exec_mkOp, ho, hr]
    exact hK _ _ (h _ _ (Nat.le_refl _) (World.rowIs_made w (.int .u8 0) n 5) ((Below.refl _ _).alloc (Nat.le_refl _) _))
theorem putcat_to (v : Value) (l m : List UInt8) (w : World) (hv : Bss w v [l, m]) (h : l.length + m.length ≤ 2147483647) : Calls Try.prog 28 #[v] w fun e w' => ∃ v', e = .returned v' ∧ Bs w' v' (l ++ m) ∧ Below w.heap.size w w' := by
  refine (cat_any v [l, m] w hv (by simpa using h)).mono ?_
  rintro e w' ⟨v', rfl, ho, kk⟩
  exact ⟨v', rfl, by simpa using ho.bs, kk⟩
theorem put32_to (n : Nat) (w : World) (hn : n < 2 ^ 32) : Calls Try.prog 29 #[.int .u32 (n : Int)] w fun e w' => ∃ v, e = .returned v ∧ Bs w' v (bigB n 4) ∧ Below w.heap.size w w' := put32_any n w hn
/-- A block more. -/
theorem out_put (F : List UInt8) (blk : List UInt8) (n m k : Nat) (hF : F.length = m) (hb : blk.length = 16) (hm : m < n) (hk : k = Nat.min 16 (n - m)) (j : Nat) (hj : j < n) :
    putN (cF .u8 (nB F)) m k (bytesAt blk) j = cF .u8 (nB (F ++ blk)) j := by
  have hk' : k = if 16 ≤ n - m then 16 else n - m := by rw [hk]; show min 16 (n - m) = _; split <;> omega
  unfold putN cF
  by_cases h : m ≤ j ∧ j < m + k
  · rw [if_pos h]
    have e : j = F.length + (j - m) := by omega
    rw [e, nB_right, hF, Nat.add_sub_cancel_left]
    rfl
  · rw [if_neg h]
    by_cases h1 : j < m
    · rw [nB_left F blk j (by omega)]
    · have h2 : m + 16 ≤ j := by
        split at hk' <;> omega
      rw [nB_out F j (by omega), nB_out (F ++ blk) j (by rw [List.length_append]; omega)]
set_option maxHeartbeats 4000000 in
set_option maxRecDepth 20000 in
theorem pBlock_any (v0 : Value) (l0 : List UInt8) (v1 : Value) (l1 : List UInt8) (w : World) (h0 : Bs w v0 l0) (hl0 : l0.length = 32) (h1 : Bs w v1 l1) (hl1 : l1.length = 16) : Calls Try.prog 10 #[v0, v1] w fun e w' => ∃ v, e = .returned (.tuple #[v, .int .i64 0]) ∧ Bs w' v (aesL l0 l1) ∧ Below w.heap.size w w' := by
  obtain ⟨ad0, n0, c0, rfl, e0, y0, z0, hB0⟩ := h0.shape
  have d0 : n0 = 32 := by omega
  subst d0
  have f_s0 := hB0
  have HF0 := Lib.hid hB0
  have HL0 := Lib.hid hl0
  clear h0 hB0 e0 hl0
  obtain ⟨ad1, n1, c1, rfl, e1, y1, z1, hB1⟩ := h1.shape
  have d1 : n1 = 16 := by omega
  subst d1
  have f_s1 := hB1
  have HF1 := Lib.hid hB1
  have HL1 := Lib.hid hl1
  clear h1 hB1 e1 hl1
  have Bw0 := Below.refl w.heap.size w
  have HGS : Hid (∀ wq : World, Below w.heap.size w wq → w.heap.size ≤ wq.heap.size) := Lib.hid fun wq h => h.size
  go_enter Try.func10, Try.ntmps10
  go_wp2_with (first
    | (have hgo := Bw0; clear hgo
       go_at_call 22
       refine (newCipher_any _ l0 _ f_s0 HL0.out).mono ?_
       rintro e w11 ⟨b_c, rfl, l_c, r_c, kk⟩
       replace f_s0 := zfb f_s0 kk
       replace f_s1 := zfb f_s1 kk
       have Bw1 := zbt HGS Bw0 kk
       clear Bw0 kk)
    | (have hgo := Bw1; clear hgo
       go_at_call 23
       refine (pblock_any b_c l0 _ l1 _ r_c f_s1 HL1.out).mono ?_
       rintro e w12 ⟨v_b, rfl, f_b, kk⟩
       have Bw2 := zbt HGS Bw1 kk
       clear Bw1 kk))
  go_ret2
  exact ⟨_, rfl, f_b, Bw2⟩
set_option maxHeartbeats 4000000 in
set_option maxRecDepth 20000 in
theorem pBlock_no (v0 : Value) (l0 : List UInt8) (v1 : Value) (l1 : List UInt8) (w : World) (h0 : Bs w v0 l0) (h1 : Bs w v1 l1) (hn : ¬ (l0.length = 32 ∧ l1.length = 16)) : Calls Try.prog 10 #[v0, v1] w fun e w' => e = .returned (.tuple #[.slice none 0 0, .int .i64 1]) ∧ Below w.heap.size w w' := by
  obtain ⟨ad0, n0, c0, rfl, e0, y0, z0, hB0⟩ := h0.shape
  obtain ⟨ad1, n1, c1, rfl, e1, y1, z1, hB1⟩ := h1.shape
  have Bw0 := Below.refl w.heap.size w
  clear h0 h1 hB0 hB1
  by_cases q : n0 = 32
  · have q0 : (n0 : Int) = 32 := by omega
    have q1 : ¬ (n1 : Int) = 16 := by omega
    clear e0 e1 q hn
    go_enter Try.func10, Try.ntmps10
    go_wp2
    go_ret2
    exact ⟨rfl, Bw0⟩
  · have q0 : ¬ (n0 : Int) = 32 := by omega
    clear e0 e1 q hn
    go_enter Try.func10, Try.ntmps10
    go_wp2
    go_ret2
    exact ⟨rfl, Bw0⟩
set_option maxHeartbeats 4000000 in
set_option maxRecDepth 20000 in
theorem rBlock_no (v0 : Value) (l0 : List UInt8) (v1 : Value) (l1 : List UInt8) (w : World) (h0 : Bs w v0 l0) (h1 : Bs w v1 l1) (hn : ¬ (l0.length = 32 ∧ l1.length = 16)) : Calls Try.prog 11 #[v0, v1] w fun e w' => e = .returned (.tuple #[.slice none 0 0, .int .i64 1]) ∧ Below w.heap.size w w' := by
  obtain ⟨ad0, n0, c0, rfl, e0, y0, z0, hB0⟩ := h0.shape
  obtain ⟨ad1, n1, c1, rfl, e1, y1, z1, hB1⟩ := h1.shape
  have Bw0 := Below.refl w.heap.size w
  clear h0 h1 hB0 hB1
  by_cases q : n0 = 32
  · have q0 : (n0 : Int) = 32 := by omega
    have q1 : ¬ (n1 : Int) = 16 := by omega
    clear e0 e1 q hn
    go_enter Try.func11, Try.ntmps11
    go_wp2
    go_ret2
    exact ⟨rfl, Bw0⟩
  · have q0 : ¬ (n0 : Int) = 32 := by omega
    clear e0 e1 q hn
    go_enter Try.func11, Try.ntmps11
    go_wp2
    go_ret2
    exact ⟨rfl, Bw0⟩
set_option maxHeartbeats 4000000 in
set_option maxRecDepth 20000 in
theorem pStream_no (v0 : Value) (l0 : List UInt8) (v1 : Value) (l1 : List UInt8) (n : Int) (w : World) (h0 : Bs w v0 l0) (h1 : Bs w v1 l1) (hn : ¬ (l0.length = 32 ∧ l1.length = 12 ∧ 0 ≤ n ∧ n ≤ 1048576)) : Calls Try.prog 14 #[v0, v1, .int .i64 n] w fun e w' => e = .returned (.tuple #[.slice none 0 0, .int .i64 1]) ∧ Below w.heap.size w w' := by
  obtain ⟨ad0, n0, c0, rfl, e0, y0, z0, hB0⟩ := h0.shape
  obtain ⟨ad1, n1, c1, rfl, e1, y1, z1, hB1⟩ := h1.shape
  have Bw0 := Below.refl w.heap.size w
  clear h0 h1 hB0 hB1
  rcases (show ¬ n0 = 32 ∨ (n0 = 32 ∧ ¬ n1 = 12) ∨ (n0 = 32 ∧ n1 = 12 ∧ n < 0) ∨ (n0 = 32 ∧ n1 = 12 ∧ ¬ n < 0 ∧ 1048576 < n) by omega) with q | ⟨q, r⟩ | ⟨q, r, s⟩ | ⟨q, r, s, t⟩
  · have q0 : ¬ (n0 : Int) = 32 := by omega
    clear e0 e1 q hn
    go_enter Try.func14, Try.ntmps14
    go_wp2
    go_ret2
    exact ⟨rfl, Bw0⟩
  · have q0 : (n0 : Int) = 32 := by omega
    have q1 : ¬ (n1 : Int) = 12 := by omega
    clear e0 e1 q r hn
    go_enter Try.func14, Try.ntmps14
    go_wp2
    go_ret2
    exact ⟨rfl, Bw0⟩
  · have q0 : (n0 : Int) = 32 := by omega
    have q1 : (n1 : Int) = 12 := by omega
    clear e0 e1 q r hn
    go_enter Try.func14, Try.ntmps14
    go_wp2
    go_ret2
    exact ⟨rfl, Bw0⟩
  · have q0 : (n0 : Int) = 32 := by omega
    have q1 : (n1 : Int) = 12 := by omega
    clear e0 e1 q r hn
    go_enter Try.func14, Try.ntmps14
    go_wp2
    go_ret2
    exact ⟨rfl, Bw0⟩
set_option maxHeartbeats 4000000 in
set_option maxRecDepth 20000 in
theorem rStream_no (v0 : Value) (l0 : List UInt8) (v1 : Value) (l1 : List UInt8) (n : Int) (w : World) (h0 : Bs w v0 l0) (h1 : Bs w v1 l1) (hn : ¬ (l0.length = 32 ∧ l1.length = 12 ∧ 0 ≤ n ∧ n ≤ 1048576)) : Calls Try.prog 15 #[v0, v1, .int .i64 n] w fun e w' => e = .returned (.tuple #[.slice none 0 0, .int .i64 1]) ∧ Below w.heap.size w w' := by
  obtain ⟨ad0, n0, c0, rfl, e0, y0, z0, hB0⟩ := h0.shape
  obtain ⟨ad1, n1, c1, rfl, e1, y1, z1, hB1⟩ := h1.shape
  have Bw0 := Below.refl w.heap.size w
  clear h0 h1 hB0 hB1
  rcases (show ¬ n0 = 32 ∨ (n0 = 32 ∧ ¬ n1 = 12) ∨ (n0 = 32 ∧ n1 = 12 ∧ n < 0) ∨ (n0 = 32 ∧ n1 = 12 ∧ ¬ n < 0 ∧ 1048576 < n) by omega) with q | ⟨q, r⟩ | ⟨q, r, s⟩ | ⟨q, r, s, t⟩
  · have q0 : ¬ (n0 : Int) = 32 := by omega
    clear e0 e1 q hn
    go_enter Try.func15, Try.ntmps15
    go_wp2
    go_ret2
    exact ⟨rfl, Bw0⟩
  · have q0 : (n0 : Int) = 32 := by omega
    have q1 : ¬ (n1 : Int) = 12 := by omega
    clear e0 e1 q r hn
    go_enter Try.func15, Try.ntmps15
    go_wp2
    go_ret2
    exact ⟨rfl, Bw0⟩
  · have q0 : (n0 : Int) = 32 := by omega
    have q1 : (n1 : Int) = 12 := by omega
    clear e0 e1 q r hn
    go_enter Try.func15, Try.ntmps15
    go_wp2
    go_ret2
    exact ⟨rfl, Bw0⟩
  · have q0 : (n0 : Int) = 32 := by omega
    have q1 : (n1 : Int) = 12 := by omega
    clear e0 e1 q r hn
    go_enter Try.func15, Try.ntmps15
    go_wp2
    go_ret2
    exact ⟨rfl, Bw0⟩
set_option maxHeartbeats 4000000 in
set_option maxRecDepth 20000 in
theorem pStream_any (v0 : Value) (l0 : List UInt8) (v1 : Value) (l1 : List UInt8) (n : Nat) (w : World) (h0 : Bs w v0 l0) (hl0 : l0.length = 32) (h1 : Bs w v1 l1) (hl1 : l1.length = 12) (hn : n ≤ 1048576) : Calls Try.prog 14 #[v0, v1, .int .i64 (n : Int)] w fun e w' => ∃ v, e = .returned (.tuple #[v, .int .i64 0]) ∧ Bs w' v ((outS l0 l1 ((n + 15) / 16)).take n) ∧ Below w.heap.size w w' := by
  obtain ⟨ad0, n0, c0, rfl, e0, y0, z0, hB0⟩ := h0.shape
  have d0 : n0 = 32 := by omega
  subst d0
  have f_s0 := hB0
  have HF0 := Lib.hid hB0
  have HL0 := Lib.hid hl0
  clear h0 hB0 e0 hl0
  obtain ⟨ad1, n1, c1, rfl, e1, y1, z1, hB1⟩ := h1.shape
  have d1 : n1 = 12 := by omega
  subst d1
  have f_s1 := hB1
  have HF1 := Lib.hid hB1
  have HL1 := Lib.hid hl1
  clear h1 hB1 e1 hl1
  have Bw0 := Below.refl w.heap.size w
  have HGS : Hid (∀ wq : World, Below w.heap.size w wq → w.heap.size ≤ wq.heap.size) := Lib.hid fun wq h => h.size
  have hnI : ¬ (n : Int) < 0 := by omega
  have hnJ : ¬ (1048576 : Int) < (n : Int) := by omega
  have HN := Lib.hid hn
  clear hn
  go_enter Try.func14, Try.ntmps14
  go_wp2_with (first
    | (have hgo := Bw0; clear hgo
       go_at_call 22
       refine (newCipher_any _ l0 _ f_s0 HL0.out).mono ?_
       rintro e w11 ⟨b_c, rfl, l_c, r_c, kk⟩
       replace f_s0 := zfb f_s0 kk
       replace f_s1 := zfb f_s1 kk
       have Bw1 := zbt HGS Bw0 kk
       clear Bw0 kk)
    | (have hgo := Bw1; clear hgo
       refine wpList_makeN rfl (.tmp 29) rfl n rfl (by have := HN.out; omega) ?_
       intro b_g w12 lk r_g kk
       have n_c_g := zrn r_c lk
       have l_g := zrl HGS Bw1 lk
       replace r_c := zrb r_c kk
       have Bw2 := zbt HGS Bw1 kk
       clear Bw1 kk lk))
  clear hnI hnJ f_s0 f_s1
  go_loopw [10] (fun iv wr => ∃ i : Nat, iv = .int .i64 (i : Int) ∧ 16 * i < n + 16 ∧ wr.rowIs b_g 5 n (cF .u8 (nB (outS l0 l1 i))) ∧ wr.rowIs b_c 57 316 (ciF boxN (wd (nB (schL l0)))) ∧ Below w.heap.size w wr) (fun iv _ => 65537 - (intOf iv).toNat)
  case atStart => exact ⟨0, rfl, by omega, r_g, r_c, Bw2⟩
  case round =>
    clear r_g r_c Bw2
    obtain ⟨i, rfl, hi, r_g, r_c, Bw0⟩ := hrel
    obtain ⟨m, hm⟩ := nat_var (16 * i)
    have hN := HN.out
    have hw1 : IntKind.i64.wrap ((i : Int) * 16) = (m : Int) := by rw [IntWalk.i64_in _ (by omega)]; omega
    by_cases hlt : m < n
    · have hltI : (m : Int) < (n : Int) := by omega
      have hil : i < 65536 := by omega
      have hw2 : IntKind.u32.wrap (i : Int) = (i : Int) := by rw [IntKind.wrap_u32]; omega
      have HI32 : Hid (i < 2 ^ 32) := Lib.hid (Nat.lt_trans hil (by decide))
      obtain ⟨i1, hi1⟩ := nat_var (i + 1)
      have hwi : IntKind.i64.wrap ((i : Int) + 1) = (i1 : Int) := by rw [IntWalk.i64_in _ (by omega)]; omega
      have HI1 := Lib.hid hi1
      have HI2 : Hid (16 * (i + 1) < n + 16 ∧ i < 65536) := Lib.hid (by omega)
      have HM : Hid (m < n) := Lib.hid hlt
      have HML : Hid ((outS l0 l1 i).length = m) := Lib.hid (by rw [outS_len, hm])
      have f_n := Bs.drew (HF1.out.below Bw0 (Nat.le_refl _))
      replace r_g := World.rowIs.drew r_g
      replace r_c := World.rowIs.drew r_c
      replace Bw0 := Bw0.drew
      have HW0 : Below wr.drew.heap.size wr.drew wr.drew := Below.refl _ _
      obtain ⟨k, hk⟩ := nat_var (Nat.min 16 (n - m))
      have HK := Lib.hid hk
      clear hm hN hlt hil hi1 hi hk
      go_wp2
      refine lb_start [(0, some []), (1, some []), (2, some []), (3, some [12]), (4, some [11]), (5, some [9]), (6, some []), (7, some [8]), (8, none), (9, none), (10, none), (11, none), (12, none)] (by kernel_rfl) (by kernel_rfl) (by decide) (by kernel_rfl) (fun d _ _ _ _ h => by cases d <;> exact h) ?_
      refine le_rdA 37 (.slice (some ⟨b_g, 0, none⟩) n n) rfl rfl rfl rfl rfl (fun wx => by unfold mkOp; go_simp; all_goals (with_reducible rfl)) ?_
      simp only [Act.put, zA, zB, zC]
      refine le_rdA 38 (.int .i64 (i : Int)) rfl rfl rfl rfl rfl (fun wx => by unfold mkOp; go_simp; all_goals (with_reducible rfl)) ?_
      simp only [Act.put, zA, zB, zC]
      refine le_rdA 39 (.int .i64 (m : Int)) rfl rfl rfl rfl rfl (fun wx => by unfold mkOp; go_simp; all_goals (with_reducible rfl)) ?_
      simp only [Act.put, zA, zB, zC]
      refine lb_rd 40 (.slice (some ⟨b_g, m, none⟩) (n - m) (n - m)) rfl rfl rfl rfl rfl (fun wx hx => exec_sliceAt _ 22 5 _ _ _ m (by kernel_rfl) (by kernel_rfl) rfl rfl rfl (Nat.le_of_lt HM.out) HM.out rfl rfl (Nat.zero_add m).symm) ?_
      simp only [Act.put, zA, zB, zC]
      refine lb_rd 41 (.pointer (some ⟨b_c, 0, none⟩)) rfl rfl rfl rfl rfl (fun wx hx => by unfold mkOp; go_simp; all_goals (with_reducible rfl)) ?_
      simp only [Act.put, zA, zB, zC]
      refine lb_rd 42 (.slice ad1 12 c1) rfl rfl rfl rfl rfl (fun wx hx => by unfold mkOp; go_simp; all_goals (with_reducible rfl)) ?_
      simp only [Act.put, zA, zB, zC]
      refine le_rdA 43 (.int .i64 (i : Int)) rfl rfl rfl rfl rfl (fun wx => by unfold mkOp; go_simp; all_goals (with_reducible rfl)) ?_
      simp only [Act.put, zA, zB, zC]
      refine lb_rd 44 (.int .u32 (i : Int)) rfl rfl rfl rfl rfl (fun wx hx => by unfold mkOp; go_simp; all_goals (with_reducible rfl)) ?_
      simp only [Act.put, zA, zB, zC]
      refine lb_call 45 HW0 (put32_to i _ HI32.out) rfl rfl rfl rfl Try.func29 (by kernel_rfl) (by kernel_rfl) (by go_simp) ?_
      intro v_c w5 f_c kk
      replace r_g := zrb r_g kk
      replace r_c := zrb r_c kk
      replace f_n := zfb f_n kk
      have HW1 := HW0.trans (kk.mono HW0.size)
      have Bw1 := zbt HGS Bw0 kk
      clear Bw0 HW0 kk
      simp only [Act.put, zA, zB, zC]
      refine lb_rows2 46 (.tmp 42) (.tmp 45) HW1 rfl rfl rfl rfl rfl f_n f_c rfl rfl ?_
      intro v_r w6 F_r kk
      replace r_g := zrb r_g kk
      replace r_c := zrb r_c kk
      replace f_n := zfb f_n kk
      have HW2 := HW1.trans (kk.mono HW1.size)
      have Bw2 := zbt HGS Bw1 kk
      clear Bw1 HW1 kk
      simp only [Act.put, zA, zB, zC]
      refine lb_call 47 HW2 (putcat_to _ _ _ _ F_r (by rw [HL1.out, bigB_len4]; decide)) rfl rfl rfl rfl Try.func28 (by kernel_rfl) (by kernel_rfl) (by go_simp) ?_
      intro v_m w7 f_m kk
      replace r_g := zrb r_g kk
      replace r_c := zrb r_c kk
      replace f_n := zfb f_n kk
      have HW3 := HW2.trans (kk.mono HW2.size)
      have Bw3 := zbt HGS Bw2 kk
      clear Bw2 HW2 kk
      simp only [Act.put, zA, zB, zC]
      refine lb_call 48 HW3 (pblock_any b_c l0 _ _ _ r_c f_m (by rw [List.length_append, HL1.out, bigB_len4])) rfl rfl rfl rfl Try.func23 (by kernel_rfl) (by kernel_rfl) (by go_simp) ?_
      intro v_b w8 f_b kk
      replace r_g := zrb r_g kk
      replace r_c := zrb r_c kk
      replace f_n := zfb f_n kk
      have HW4 := HW3.trans (kk.mono HW3.size)
      have Bw4 := zbt HGS Bw3 kk
      clear Bw3 HW3 kk
      simp only [Act.put, zA, zB, zC]
      refine lb_copy 49 (.tmp 40) (.tmp 48) _ rfl rfl rfl rfl rfl rfl r_g f_b rfl rfl (by have := HM.out; omega) k (by rw [aesL_len]; exact HK.out) ?_
      intro w9 q9 g9
      replace q9 := q9.congr (out_put (outS l0 l1 i) _ n m k HML.out (aesL_len _ _) HM.out HK.out)
      replace r_c := gb_rowIs r_c g9 n_c_g
      have Bw9 := zbg HGS Bw4 g9 l_g
      simp only [Act.put, zA, zB, zC]
      refine le_end ?_
      clear hw1 hw2 hltI Bw4 HW4 g9 f_n f_b r_g
      go_wp2
      go_roundw
      case rel => exact ⟨i + 1, by rw [HI1.out], HI2.out.1, q9, r_c, Bw9⟩
      case measure => (have := HI1.out; have := HI2.out; simp [intOf]; try omega)
    · have hltI : ¬ (m : Int) < (n : Int) := by omega
      have hfin : (n + 15) / 16 = i := by omega
      have hol : (outS l0 l1 i).length = 16 * i := outS_len _ _ _
      have hB : Bs wr (.slice (some ⟨b_g, 0, none⟩) ((outS l0 l1 i).take n).length n) ((outS l0 l1 i).take n) := by
        refine Bs.of_rowIs r_g _ (by rw [List.length_take]; exact Nat.min_le_left _ _) (by unfold maxLen; omega) fun j hj => ?_
        rw [List.length_take] at hj
        unfold cF nB
        rw [List.getD_eq_getElem?_getD, List.getElem?_eq_getElem (by omega), List.getElem_take]
        rfl
      rw [List.length_take, Nat.min_eq_left (by omega)] at hB
      rw [← hfin] at hB
      clear hm hN hlt hfin hol hi
      go_wp2
      go_ret2
      exact ⟨_, rfl, hB, Bw0⟩
set_option maxHeartbeats 4000000 in
set_option maxRecDepth 20000 in
theorem pCrypt_any (v0 : Value) (l0 : List UInt8) (v1 : Value) (l1 : List UInt8) (v2 : Value) (l2 : List UInt8) (w : World) (h0 : Bs w v0 l0) (hl0 : l0.length = 32) (h1 : Bs w v1 l1) (hl1 : l1.length = 12) (h2 : Bs w v2 l2) (hn : l2.length ≤ 1048576) : Calls Try.prog 16 #[v0, v1, v2] w fun e w' => ∃ v, e = .returned (.tuple #[v, .int .i64 0]) ∧ Bs w' v (xorB l2 ((outS l0 l1 ((l2.length + 15) / 16)).take l2.length)) ∧ Below w.heap.size w w' := by
  obtain ⟨ad2, n2, c2, rfl, e2, y2, z2, hB2⟩ := h2.shape
  have f_s0 := h0
  have f_s1 := h1
  have f_s2 := hB2
  have HL0 := Lib.hid hl0
  have HL1 := Lib.hid hl1
  have HE := Lib.hid e2
  have HN := Lib.hid hn
  have Bw0 := Below.refl w.heap.size w
  have HGS : Hid (∀ wq : World, Below w.heap.size w wq → w.heap.size ≤ wq.heap.size) := Lib.hid fun wq h => h.size
  clear h0 h1 h2 hB2 hl0 hl1 hn e2
  go_enter Try.func16, Try.ntmps16
  go_wp2_with (first
    | (have hgo := Bw0; clear hgo
       go_at_call 14
       refine (pStream_any _ l0 _ l1 n2 _ f_s0 HL0.out f_s1 HL1.out (by rw [← HE.out]; exact HN.out)).mono ?_
       rintro e w11 ⟨v_s, rfl, f_s, kk⟩
       replace f_s2 := zfb f_s2 kk
       have Bw1 := zbt HGS Bw0 kk
       clear Bw0 kk)
    | (have hgo := Bw1; clear hgo
       go_at_call 30
       refine (xor_any _ _ l2 _ _ f_s2 f_s (.inl (Nat.le_trans HN.out (by decide)))).mono ?_
       rintro e w12 ⟨v_x, rfl, f_x, kk⟩
       have Bw2 := zbt HGS Bw1 kk
       clear Bw1 kk))
  go_ret2
  rw [HE.out]
  exact ⟨_, rfl, f_x, Bw2⟩
set_option maxHeartbeats 4000000 in
set_option maxRecDepth 20000 in
theorem pCrypt_no (v0 : Value) (l0 : List UInt8) (v1 : Value) (l1 : List UInt8) (v2 : Value) (l2 : List UInt8) (w : World) (h0 : Bs w v0 l0) (h1 : Bs w v1 l1) (h2 : Bs w v2 l2) (hn : ¬ (l0.length = 32 ∧ l1.length = 12 ∧ l2.length ≤ 1048576)) : Calls Try.prog 16 #[v0, v1, v2] w fun e w' => e = .returned (.tuple #[.slice none 0 0, .int .i64 1]) ∧ Below w.heap.size w w' := by
  obtain ⟨ad2, n2, c2, rfl, e2, y2, z2, hB2⟩ := h2.shape
  have f_s0 := h0
  have f_s1 := h1
  have HNO : Hid (¬ (l0.length = 32 ∧ l1.length = 12 ∧ 0 ≤ (n2 : Int) ∧ (n2 : Int) ≤ 1048576)) := Lib.hid (fun h => hn ⟨h.1, h.2.1, by omega⟩)
  have Bw0 := Below.refl w.heap.size w
  have HGS : Hid (∀ wq : World, Below w.heap.size w wq → w.heap.size ≤ wq.heap.size) := Lib.hid fun wq h => h.size
  clear h0 h1 h2 hB2 hn e2
  go_enter Try.func16, Try.ntmps16
  go_wp2_with (first
    | (have hgo := Bw0; clear hgo
       go_at_call 14
       refine (pStream_no _ l0 _ l1 (n2 : Int) _ f_s0 f_s1 HNO.out).mono ?_
       rintro e w11 ⟨rfl, kk⟩
       have Bw1 := zbt HGS Bw0 kk
       clear Bw0 kk))
  go_ret2
  exact ⟨rfl, Bw1⟩
end Go.Proofs.Ytiapkfeamochfaa

/- AES: the example, by the kernel. -/
namespace Go.Proofs.Ytiapkfeamochfaa
open Go.RowKit Go.Deep
set_option linter.unusedSimpArgs false
set_option linter.unusedVariables false

def tabW (i : Nat) : Nat := 20355277184109473632451592845122174570466005575643139519491632349348705432220465582445320306734839236782338064386032861059533201668753527876554580338457185155563434669240233710088929465899529849653542617036413128939278198276082080543213362436565949485179966231341385811865960285492894670216446490098901701156150530189316574374554484451297246493439702291401480056429279106487604805560897913185927245917442760585241677733569457169942622965260403855638687582819566477298508064883805910109573946131471639613432622743106065293698903884390503070937697546497189519146435270623528878336 / 2 ^ (8 * i) % 256
def tabT (i : Nat) : Nat := 50963934705142833683496682341271752406819456413379667856314258011664886473558870788316004239078851555309189656412487522541324547988650415440417346714769465425093220414090502743273438316735794701048884497054064878293392544771408084618549413139021442598551690275505597876287015346556543378421007905225799693607920276020707060470541852577879007797455239254454637340306370606773284925073987002026735041353100079414931011653936261763653714803012985955753771919403369831374163803449100043914216040640805612281615803534788956847894090284825485787543329474019145802624556360935948685312 / 2 ^ (8 * i) % 256
def tabR (i : Nat) : Nat := 21746428970964969606412161650410547482642576810877460391839985352793273014784290131339453610574569701133492411175159195517452801 / 2 ^ (8 * i) % 256
def exK : List UInt8 := (List.range 32).map UInt8.ofNat
def exB : List UInt8 := (List.range 16).map fun i => UInt8.ofNat (17 * i)
def exW (n : Nat) : List UInt8 := (List.range (4 * (n + 8))).map fun j => UInt8.ofNat (tabW j)
def sbT (x : UInt8) : UInt8 := UInt8.ofNat (tabS x.toNat)
theorem sb8_tab (x : UInt8) : sb8 x = sbT x := by unfold sb8 sbT; rw [boxN_tab _ (UInt8.toNat_lt x)]
def tWt (x : List UInt8) (i rc : Nat) : List UInt8 :=
  if i % 8 = 0 then [UInt8.ofNat (tabS (x.getD 1 0).toNat ^^^ rc), sbT (x.getD 2 0), sbT (x.getD 3 0), sbT (x.getD 0 0)]
  else if i % 8 = 4 then [sbT (x.getD 0 0), sbT (x.getD 1 0), sbT (x.getD 2 0), sbT (x.getD 3 0)] else x
theorem tW_tab (x : List UInt8) (i rc : Nat) : tW x i rc = tWt x i rc := by
  unfold tW tWt
  rw [boxN_tab _ (UInt8.toNat_lt _), sb8_tab, sb8_tab, sb8_tab, sb8_tab]
theorem exW_step : ∀ n : Fin 52, exW n.val ++ nW (exW n.val) (tWt (((exW n.val).take (4 * (n.val + 8))).drop (4 * (n.val + 8) - 4)) (n.val + 8) (tabR n.val)) (n.val + 8) 4 = exW (n.val + 1) ∧ (if (n.val + 8) % 8 = 0 then gfm (tabR n.val) 2 else tabR n.val) = tabR (n.val + 1) := by decide +kernel
theorem ex_sch : ∀ n, n ≤ 52 → schS exK n = (exW n, tabR n)
  | 0, _ => by
    show (exK, 1) = _
    decide +kernel
  | n + 1, h => by
    have hs := exW_step ⟨n, by omega⟩
    show ((schS exK n).1 ++ nW (schS exK n).1 (tW (((schS exK n).1.take (4 * (n + 8))).drop (4 * (n + 8) - 4)) (n + 8) (schS exK n).2) (n + 8) 4, if (n + 8) % 8 = 0 then gfm (schS exK n).2 2 else (schS exK n).2) = _
    rw [ex_sch n (by omega), tW_tab]
    exact Prod.ext hs.1 hs.2
theorem ex_key : schL exK = exW 52 := by
  unfold schL
  rw [ex_sch 52 (by decide)]
theorem tabW_lt (j : Nat) : tabW j < 256 := Nat.mod_lt _ (by decide)
theorem nB_exW (j : Nat) (hj : j < 240) : nB (exW 52) j = tabW j := by
  unfold nB exW
  rw [List.getD_eq_getElem?_getD, List.getElem?_map, List.getElem?_range (by omega)]
  exact UInt8.toNat_ofNat_of_lt' (tabW_lt j)
def tabA (k j : Nat) : Nat := tabT (16 * k + j)
theorem tabA_lt (k j : Nat) : tabA k j < 256 := Nat.mod_lt _ (by decide)
def shT (A : Nat → Nat) (j : Nat) : Nat := tabS (A (4 * ((j / 4 + j % 4) % 4) + j % 4))
theorem ex_step : ∀ (k : Fin 14) (j : Fin 16), arkN (if k.val + 1 < 14 then mixN (shT (tabA k.val)) else shT (tabA k.val)) tabW (k.val + 1) j.val = tabA (k.val + 1) j.val := by decide +kernel
theorem ex_start : ∀ j : Fin 16, nB exB j.val ^^^ tabW j.val = tabA 0 j.val := by decide +kernel
theorem sh_tab (A B : Nat → Nat) (h : ∀ i, i < 16 → A i = B i) (hB : ∀ i, B i < 256) (j : Nat) (hj : j < 16) : shN A j = shT B j := by
  unfold shN shT
  rw [h _ (by omega), boxN_tab _ (hB _)]
theorem mix_congr (A B : Nat → Nat) (h : ∀ i, i < 16 → A i = B i) (j : Nat) (hj : j < 16) : mixN A j = mixN B j := by
  unfold mixN
  rw [h (4 * (j / 4) + j % 4) (by omega), h (4 * (j / 4) + (j % 4 + 1) % 4) (by omega), h (4 * (j / 4) + (j % 4 + 2) % 4) (by omega), h (4 * (j / 4) + (j % 4 + 3) % 4) (by omega)]
theorem ex_state : ∀ k, k ≤ 14 → ∀ j, j < 16 → stN (nB exB) (nB (exW 52)) k j = tabA k j
  | 0, _, j, hj => by
    show nB exB j ^^^ nB (exW 52) (16 * 0 + j) = _
    rw [Nat.mul_zero, Nat.zero_add, nB_exW j (by omega)]
    exact ex_start ⟨j, hj⟩
  | k + 1, hk, j, hj => by
    have ih := ex_state k (by omega)
    have hs := ex_step ⟨k, by omega⟩ ⟨j, hj⟩
    rw [← hs]
    show (if k + 1 < 14 then mixN (shN (stN (nB exB) (nB (exW 52)) k)) else shN (stN (nB exB) (nB (exW 52)) k)) j ^^^ nB (exW 52) (16 * (k + 1) + j) = (if k + 1 < 14 then mixN (shT (tabA k)) else shT (tabA k)) j ^^^ tabW (16 * (k + 1) + j)
    rw [nB_exW _ (by omega)]
    congr 1
    have hsh := fun i hi => sh_tab (stN (nB exB) (nB (exW 52)) k) (tabA k) ih (tabA_lt k) i hi
    split
    · exact mix_congr _ _ hsh j hj
    · exact hsh j hj
theorem ex_four : (aesL exK exB).take 4 = [142, 162, 183, 202] := by
  unfold aesL
  rw [ex_key]
  have h := ex_state 14 (by decide)
  have e : (blkL (stN (nB exB) (nB (exW 52)) 14)).take 4 = [UInt8.ofNat (stN (nB exB) (nB (exW 52)) 14 0), UInt8.ofNat (stN (nB exB) (nB (exW 52)) 14 1), UInt8.ofNat (stN (nB exB) (nB (exW 52)) 14 2), UInt8.ofNat (stN (nB exB) (nB (exW 52)) 14 3)] := rfl
  rw [e, h 0 (by decide), h 1 (by decide), h 2 (by decide), h 3 (by decide)]
  decide +kernel
theorem exK_at (i : Nat) (h : i < exK.length) : (exK[i]).toNat = i := by
  have h' : i < 32 := h
  have e : exK[i]'h = UInt8.ofNat i := by simp [exK]
  rw [e]
  exact UInt8.toNat_ofNat_of_lt' (by show i < 256; omega)
theorem exB_at (i : Nat) (h : i < exB.length) : (exB[i]).toNat = 17 * i := by
  have h' : i < 16 := h
  have e : exB[i]'h = UInt8.ofNat (17 * i) := by simp [exB]
  rw [e]
  exact UInt8.toNat_ofNat_of_lt' (by show 17 * i < 256; omega)
set_option maxHeartbeats 4000000 in
set_option maxRecDepth 20000 in
theorem awake12_any (w : World) : Calls Try.prog 9 #[] w fun e w' => e = .returned (.bool true) ∧ Below w.heap.size w w' := by
  have Bw0 := Below.refl w.heap.size w
  have HGS : Hid (∀ wq : World, Below w.heap.size w wq → w.heap.size ≤ wq.heap.size) := Lib.hid fun wq h => h.size
  have H4 := Lib.hid ex_four
  have HBX := Lib.hid fun w => pBox_any 0 w (by decide)
  rw [box_0] at HBX
  go_enter Try.func9, Try.ntmps9
  go_wp2_with (first
    | (have hgo := Bw0; clear hgo
       refine wpList_makeN rfl (.const (.int .i64 32)) rfl 32 rfl (by decide) ?_
       intro b_k w1 lk r_k kk
       have l_k := zrl HGS Bw0 lk
       have Bw1 := zbt HGS Bw0 kk
       clear Bw0 kk lk)
    | (have hgo := Bw1; clear hgo
       refine wpList_makeN rfl (.const (.int .i64 16)) rfl 16 rfl (by decide) ?_
       intro b_b w2 lk r_b kk
       have n_k_b := zrn r_k lk
       have l_b := zrl HGS Bw1 lk
       replace r_k := zrb r_k kk
       have Bw2 := zbt HGS Bw1 kk
       clear Bw1 kk lk))
  go_loopw [3] (fun iv wr => ∃ i : Nat, i ≤ 32 ∧ iv = .int .i64 (i : Int) ∧ wr.rowIs b_k 5 32 (cF .u8 (upN (fun i => i) (fun _ => 0) i)) ∧ wr.rowIs b_b 5 16 (cF .u8 fun _ => 0) ∧ Below w.heap.size w wr) (fun iv _ => 32 - (intOf iv).toNat)
  case atStart => exact ⟨0, by decide, rfl, by rw [upN_zero]; exact r_k, r_b, Bw2⟩
  case round =>
    clear r_k r_b Bw2
    obtain ⟨i, hi, rfl, r_k, r_b, Bw0⟩ := hrel
    by_cases hlt : i < 32
    · have hiI : 0 ≤ (i : Int) ∧ (i : Int) < 32 := by omega
      have HI := Lib.hid hlt
      have hw1 : IntKind.u8.wrap (i : Int) = (i : Int) := by rw [IntKind.wrap_u8]; omega
      obtain ⟨i1, hi1⟩ := nat_var (i + 1)
      have hw2 : IntKind.i64.wrap ((i : Int) + 1) = (i1 : Int) := by rw [IntWalk.i64_in _ (by omega)]; omega
      have HI1 := Lib.hid hi1
      clear hi hlt hi1
      go_wp2_with (first
        | (have hgo := Bw0; clear hgo
           refine wpList_store_c rfl 5 (.tmp 17) (.tmp 16) rfl (upN (fun i => i) (fun _ => 0) (i + 1)) r_k HI.out rfl rfl (by kernel_rfl) (upN_stepC _ _ i i 32 rfl) ?_
           intro w5 q5 g5
           replace r_b := gb_rowIs r_b g5 (Ne.symm n_k_b)
           have Bw1 := zbg HGS Bw0 g5 l_k
           clear Bw0 g5 r_k))
      go_roundw
      case rel => exact ⟨i + 1, HI.out, by rw [HI1.out], q5, r_b, Bw1⟩
      case measure => (have := HI.out; have := HI1.out; simp [intOf]; try omega)
    · obtain rfl : i = 32 := by omega
      replace r_k := cF_all r_k
      clear hi hlt
      rw [show ((32 : Nat) : Int) = 32 from rfl]
      go_wp2
      go_loopw [4] (fun iv wr => ∃ i : Nat, i ≤ 16 ∧ iv = .int .i64 (i : Int) ∧ wr.rowIs b_k 5 32 (cF .u8 (fun i => i)) ∧ wr.rowIs b_b 5 16 (cF .u8 (upN (fun i => 17 * i) (fun _ => 0) i)) ∧ Below w.heap.size w wr) (fun iv _ => 16 - (intOf iv).toNat)
      case atStart => exact ⟨0, by decide, rfl, r_k, by rw [upN_zero]; exact r_b, Bw0⟩
      case round =>
        clear r_k r_b Bw0
        obtain ⟨i, hi, rfl, r_k, r_b, Bw0⟩ := hrel
        by_cases hlt : i < 16
        · have hiI : 0 ≤ (i : Int) ∧ (i : Int) < 16 := by omega
          have HI := Lib.hid hlt
          obtain ⟨m, hm⟩ := nat_var (17 * i)
          have hw0 : IntKind.i64.wrap (17 * (i : Int)) = (m : Int) := by rw [IntWalk.i64_in _ (by omega)]; omega
          have hw1 : IntKind.u8.wrap (m : Int) = (m : Int) := by rw [IntKind.wrap_u8]; omega
          obtain ⟨i1, hi1⟩ := nat_var (i + 1)
          have hw2 : IntKind.i64.wrap ((i : Int) + 1) = (i1 : Int) := by rw [IntWalk.i64_in _ (by omega)]; omega
          have HI1 := Lib.hid hi1
          have HM : Hid (17 * i = m) := Lib.hid hm.symm
          clear hi hlt hi1 hm
          go_wp2_with (first
            | (have hgo := Bw0; clear hgo
               refine wpList_store_c rfl 5 (.tmp 27) (.tmp 26) rfl (upN (fun i => 17 * i) (fun _ => 0) (i + 1)) r_b HI.out rfl rfl (by kernel_rfl) (upN_stepC _ _ i m 16 HM.out) ?_
               intro w5 q5 g5
               replace r_k := gb_rowIs r_k g5 n_k_b
               have Bw1 := zbg HGS Bw0 g5 l_b
               clear Bw0 g5 r_b))
          go_roundw
          case rel => exact ⟨i + 1, HI.out, by rw [HI1.out], r_k, q5, Bw1⟩
          case measure => (have := HI.out; have := HI1.out; simp [intOf]; try omega)
        · obtain rfl : i = 16 := by omega
          replace r_b := cF_all r_b
          have f_k : Bs wr (.slice (some ⟨b_k, 0, none⟩) exK.length 32) exK := Bs.of_rowIs r_k exK (by decide) (by unfold maxLen; omega) (fun i hi => by unfold cF; rw [exK_at])
          have f_b : Bs wr (.slice (some ⟨b_b, 0, none⟩) exB.length 16) exB := Bs.of_rowIs r_b exB (by decide) (by unfold maxLen; omega) (fun i hi => by unfold cF; rw [exB_at])
          replace f_k : Bs wr (.slice (some ⟨b_k, 0, none⟩) 32 32) exK := f_k
          replace f_b : Bs wr (.slice (some ⟨b_b, 0, none⟩) 16 16) exB := f_b
          clear hi hlt r_k r_b
          go_wp2_with (first
            | (have hgo := Bw0; clear hgo
               go_at_call 10
               refine (pBlock_any _ exK _ exB _ f_k rfl f_b rfl).mono ?_
               rintro e w7 ⟨v_c, rfl, f_c, kk⟩
               have Bw1 := zbt HGS Bw0 kk
               clear Bw0 kk f_k f_b)
            | (have hgo := Bw1; clear hgo
               go_at_call 12
               refine (HBX.out _).mono ?_
               rintro e w8 ⟨rfl, kk⟩
               replace f_c := zfb f_c kk
               have Bw2 := zbt HGS Bw1 kk
               clear Bw1 kk
               obtain ⟨ad, n, c, rfl, e3, y3, z3, h3b⟩ := f_c.shape
               have hn : n = 16 := by rw [← e3]; exact aesL_len _ _
               subst hn
               have h5 := (Bs.take h3b (k := 4) (by omega)).conv
               rw [H4.out] at h5
               clear f_c h3b e3))
          go_ret
          exact ⟨rfl, Bw2⟩
end Go.Proofs.Ytiapkfeamochfaa

/- missivealike.Sum, missivealike.All: how many bytes rows have, held. -/
set_option linter.unusedSimpArgs false
set_option linter.unusedVariables false
namespace Go.Proofs.Ytiapkfeamochfaa
open Go.RowKit Go.Deep

/-- The slice value v reads as the ints xs, none of which is negative. -/
def Ns (w : World) (v : Value) (xs : List Nat) : Prop :=
  ∃ (b off cap : Nat), v = .slice (some ⟨b, off, none⟩) xs.length cap ∧ b < w.heap.size ∧ ∀ i (h : i < xs.length), w.cell? ⟨b, off + i, none⟩ = some (.int .i64 (xs[i] : Int))

theorem Ns.two (w : World) (x y : Nat) : Ns (w.alloc (.cells #[.int .i64 (x : Int), .int .i64 (y : Int)] 3)) (.slice (some ⟨w.heap.size, 0, none⟩) 2 2) [x, y] := by
  refine ⟨_, _, _, rfl, by simp, fun i hi => ?_⟩
  match i, hi with
  | 0, _ => exact World.cell?_alloc_mark w _ 3 (0, 0) 0
  | 1, _ => exact World.cell?_alloc_mark w _ 3 (0, 0) 1

end Go.Proofs.Ytiapkfeamochfaa

/- missivealike.Cat; All and Round by their texts. -/
set_option linter.unusedSimpArgs false
set_option linter.unusedVariables false
namespace Go.Proofs.Ytiapkfeamochfaa
open Go.RowKit Go.Deep

end Go.Proofs.Ytiapkfeamochfaa

/- AES: what is answered, refused or not. -/
namespace Go.Proofs.Ytiapkfeamochfaa
open Go.RowKit Go.Deep
set_option linter.unusedSimpArgs false
set_option linter.unusedVariables false

theorem po_mv {ops : Array Oper} {Q : Exit → Act → World → Prop} {bs : List Nat} {w0 : World} {i : Nat} {a : Act} {w : World} {o : Oper} {it : List PI} {olds : List Old} {m : List Bool} {g : Nat → Value} {p : Nat} {ds : List (Option Nat)} (d r : Nat) (s : Operand) {l0 : List UInt8} {u : Nat} (hwf : poWf it olds = true) (hp : p < m.length) (hmp : m.getD p true = false) (hJ : JG it olds w0.heap.size m g w) (hit : it.getD p .nil = .own l0 u) (hr : it.getD r .nil = .own l0 p) (hmr : m.getD r false = true)
    (holds : ∀ i, (h : i < olds.length) → olds[i].b < w0.heap.size) (hE : Keep bs w0 w)
    (ho : ops[i]? = some o) (hd : o.dst = some d) (hds : ds.getD p none = some d) (hop : o.op = .assign s) (hw : Region.wanted o (yielded ops a.tmps) = true) (hs : a.eval s = g r) :
    wpOp Try.prog ops Q i (fun a' w' => Keep bs w0 w' ∧ ∃ v, a' = a.put (ds.getD p none) v ∧ JG it olds w0.heap.size (m.set p true) (upd g p v) w') a w := by
  have hmp' : m.getD p false = false := by
    rw [List.getD_eq_getElem?_getD, List.getElem?_eq_getElem hp] at hmp ⊢
    exact hmp
  have hor := hJ.own hmr hr hmp'
  have hrun : (execOp a.eval (mkOp (.assign s) o.type)).run Try.prog w = .ok (.value (g r)) w := x_assign hs
  refine wpOp_step ho fun K' hK => ?_
  rw [if_pos hw]
  unfold Oper.wp
  rw [exec_mkOp, hop, hrun]
  exact hK _ _ ⟨hE, g r, by rw [hd, hds], hJ.app hwf hp hit hr hmr hmp' holds ⟨rfl, rfl, rfl, Nat.le_refl _, fun _ _ _ => rfl⟩ hor (.inl rfl)⟩
theorem exec_str_yes {w : World} (ρ : Operand → Value) (x y : Operand) (t : TypeId) {l m : List UInt8} (h : l = m) (hx : ρ x = .string ⟨l.toArray⟩) (hy : ρ y = .string ⟨m.toArray⟩) :
    (execOp ρ (mkOp (.binOp .eql 9 x y 9) t)).run Try.prog w = .ok (.value (.bool true)) w := by
  subst h
  simp only [execOp, mkOp, hx, hy]
  all_goals go_simp
theorem exec_neqstr {w : World} (ρ : Operand → Value) (x y : Operand) (t : TypeId) (l : List UInt8) (hx : ρ x = .string ⟨l.toArray⟩) (hy : ρ y = .string ⟨l.toArray⟩) : (execOp ρ (mkOp (.binOp .neq 9 x y 9) t)).run Try.prog w = .ok (.value (.bool false)) w := by
  simp only [execOp, mkOp, hx, hy]
  go_simp
def okB (l0 l1 : List UInt8) : Prop := l0.length = 32 ∧ l1.length = 16
instance (l0 l1 : List UInt8) : Decidable (okB l0 l1) := inferInstanceAs (Decidable (_ ∧ _))
def okS (l0 l1 : List UInt8) (n : Int) : Prop := l0.length = 32 ∧ l1.length = 12 ∧ 0 ≤ n ∧ n ≤ 1048576
instance (l0 l1 : List UInt8) (n : Int) : Decidable (okS l0 l1 n) := inferInstanceAs (Decidable (_ ∧ _ ∧ _ ∧ _))
def blL (l0 l1 : List UInt8) : List UInt8 := if okB l0 l1 then aesL l0 l1 else []
def blE (l0 l1 : List UInt8) : Int := if okB l0 l1 then 0 else 1
def stL (l0 l1 : List UInt8) (n : Int) : List UInt8 := if okS l0 l1 n then (outS l0 l1 ((n.toNat + 15) / 16)).take n.toNat else []
def stE (l0 l1 : List UInt8) (n : Int) : Int := if okS l0 l1 n then 0 else 1
theorem pBlock_to (v0 : Value) (l0 : List UInt8) (v1 : Value) (l1 : List UInt8) (w : World) (h0 : Bs w v0 l0) (h1 : Bs w v1 l1) : Calls Try.prog 10 #[v0, v1] w fun e w' => ∃ v, e = .returned (.tuple #[v, .int .i64 (blE l0 l1)]) ∧ Bs w' v (blL l0 l1) ∧ Below w.heap.size w w' := by
  by_cases h : okB l0 l1
  · unfold blE blL
    rw [if_pos h, if_pos h]
    exact pBlock_any v0 l0 v1 l1 w h0 h.1 h1 h.2
  · unfold blE blL
    rw [if_neg h, if_neg h]
    refine (pBlock_no v0 l0 v1 l1 w h0 h1 h).mono ?_
    rintro e w' ⟨rfl, kk⟩
    exact ⟨_, rfl, Bs.nil _, kk⟩
theorem rBlock_to (v0 : Value) (l0 : List UInt8) (v1 : Value) (l1 : List UInt8) (w : World) (h0 : Bs w v0 l0) (h1 : Bs w v1 l1) : Calls Try.prog 11 #[v0, v1] w fun e w' => ∃ v, e = .returned (.tuple #[v, .int .i64 (blE l0 l1)]) ∧ Bs w' v (blL l0 l1) ∧ Below w.heap.size w w' := by
  by_cases h : okB l0 l1
  · unfold blE blL
    rw [if_pos h, if_pos h]
    exact refBlock_any v0 l0 v1 l1 w h0 h.1 h1 h.2
  · unfold blE blL
    rw [if_neg h, if_neg h]
    refine (rBlock_no v0 l0 v1 l1 w h0 h1 h).mono ?_
    rintro e w' ⟨rfl, kk⟩
    exact ⟨_, rfl, Bs.nil _, kk⟩
theorem pStream_to (v0 : Value) (l0 : List UInt8) (v1 : Value) (l1 : List UInt8) (n : Int) (w : World) (h0 : Bs w v0 l0) (h1 : Bs w v1 l1) : Calls Try.prog 14 #[v0, v1, .int .i64 n] w fun e w' => ∃ v, e = .returned (.tuple #[v, .int .i64 (stE l0 l1 n)]) ∧ Bs w' v (stL l0 l1 n) ∧ Below w.heap.size w w' := by
  by_cases h : okS l0 l1 n
  · unfold stE stL
    rw [if_pos h, if_pos h]
    obtain ⟨h32, h12, hn0, hn1⟩ := h
    obtain ⟨k, rfl⟩ := Int.eq_ofNat_of_zero_le hn0
    rw [Int.toNat_natCast]
    exact pStream_any v0 l0 v1 l1 k w h0 h32 h1 h12 (by omega)
  · unfold stE stL
    rw [if_neg h, if_neg h]
    refine (pStream_no v0 l0 v1 l1 n w h0 h1 h).mono ?_
    rintro e w' ⟨rfl, kk⟩
    exact ⟨_, rfl, Bs.nil _, kk⟩
theorem rStream_to (v0 : Value) (l0 : List UInt8) (v1 : Value) (l1 : List UInt8) (n : Int) (w : World) (h0 : Bs w v0 l0) (h1 : Bs w v1 l1) : Calls Try.prog 15 #[v0, v1, .int .i64 n] w fun e w' => ∃ v, e = .returned (.tuple #[v, .int .i64 (stE l0 l1 n)]) ∧ Bs w' v (stL l0 l1 n) ∧ Below w.heap.size w w' := by
  by_cases h : okS l0 l1 n
  · unfold stE stL
    rw [if_pos h, if_pos h]
    obtain ⟨h32, h12, hn0, hn1⟩ := h
    obtain ⟨k, rfl⟩ := Int.eq_ofNat_of_zero_le hn0
    rw [Int.toNat_natCast]
    exact refStream_any v0 l0 v1 l1 k w h0 h32 h1 h12 (by omega)
  · unfold stE stL
    rw [if_neg h, if_neg h]
    refine (rStream_no v0 l0 v1 l1 n w h0 h1 h).mono ?_
    rintro e w' ⟨rfl, kk⟩
    exact ⟨_, rfl, Bs.nil _, kk⟩
theorem pCrypt_to (v0 : Value) (l0 : List UInt8) (v1 : Value) (l1 : List UInt8) (v2 : Value) (l2 : List UInt8) (w : World) (h0 : Bs w v0 l0) (h1 : Bs w v1 l1) (h2 : Bs w v2 l2) : Calls Try.prog 16 #[v0, v1, v2] w fun e w' => ∃ v, e = .returned (.tuple #[v, .int .i64 (stE l0 l1 (l2.length : Int))]) ∧ Bs w' v (xorB l2 (stL l0 l1 (l2.length : Int))) ∧ Below w.heap.size w w' := by
  by_cases h : okS l0 l1 (l2.length : Int)
  · unfold stE stL
    rw [if_pos h, if_pos h, Int.toNat_natCast]
    exact pCrypt_any v0 l0 v1 l1 v2 l2 w h0 h.1 h1 h.2.1 h2 (by have := h.2.2.2; omega)
  · unfold stE stL
    rw [if_neg h, if_neg h]
    refine (pCrypt_no v0 l0 v1 l1 v2 l2 w h0 h1 h2 (fun g => h ⟨g.1, g.2.1, by omega, by omega⟩)).mono ?_
    rintro e w' ⟨rfl, kk⟩
    refine ⟨_, rfl, ?_, kk⟩
    rw [show xorB l2 [] = [] by unfold xorB; exact List.zipWith_nil_right]
    exact Bs.nil _
theorem stL_len (l0 l1 : List UInt8) (n : Nat) (h0 : l0.length = 32) (h1 : l1.length = 12) (hn : n ≤ 1048576) : (stL l0 l1 (n : Int)).length = n := by
  unfold stL
  rw [if_pos ⟨h0, h1, by omega, by omega⟩, Int.toNat_natCast, List.length_take, outS_len]
  omega
theorem stL_eq (l0 l1 : List UInt8) (n : Nat) (h0 : l0.length = 32) (h1 : l1.length = 12) (hn : n ≤ 1048576) : stL l0 l1 (n : Int) = (outS l0 l1 ((n + 15) / 16)).take n := by
  unfold stL
  rw [if_pos ⟨h0, h1, by omega, by omega⟩, Int.toNat_natCast]
theorem stE_ok (l0 l1 : List UInt8) (n : Nat) (h0 : l0.length = 32) (h1 : l1.length = 12) (hn : n ≤ 1048576) : stE l0 l1 (n : Int) = 0 := if_pos ⟨h0, h1, by omega, by omega⟩
/-- A longer stream goes on as the shorter one. -/
theorem outS_take (l0 l1 : List UInt8) (i : Nat) : ∀ k, i ≤ k → (outS l0 l1 k).take (16 * i) = outS l0 l1 i
  | 0, h => by
    obtain rfl : i = 0 := by omega
    rfl
  | k + 1, h => by
    by_cases e : i = k + 1
    · subst e
      rw [List.take_of_length_le (by rw [outS_len]; omega)]
    · show (outS l0 l1 k ++ _).take (16 * i) = _
      rw [List.take_append_of_le_length (by rw [outS_len]; omega), outS_take l0 l1 i k (by omega)]
theorem stL_block (l0 l1 : List UInt8) (n k : Nat) (h0 : l0.length = 32) (h1 : l1.length = 12) (hn : n ≤ 1048576) (hk : 16 * k + 16 ≤ n) : ((stL l0 l1 (n : Int)).take (16 * k + 16)).drop (16 * k) = aesL l0 (l1 ++ bigB k 4) := by
  rw [stL_eq l0 l1 n h0 h1 hn, List.take_take, Nat.min_eq_left hk]
  have h := outS_take l0 l1 (k + 1) ((n + 15) / 16) (by omega)
  rw [show 16 * (k + 1) = 16 * k + 16 by omega] at h
  rw [h]
  show (outS l0 l1 k ++ aesL l0 (l1 ++ bigB k 4)).drop (16 * k) = _
  rw [List.drop_append_of_le_length (by rw [outS_len]; omega), List.drop_of_length_le (by rw [outS_len]; omega), List.nil_append]
theorem stL_take (l0 l1 : List UInt8) (n m : Nat) (h0 : l0.length = 32) (h1 : l1.length = 12) (hm : m ≤ 1048576) (hn : n ≤ m) : (stL l0 l1 (m : Int)).take n = stL l0 l1 (n : Int) := by
  rw [stL_eq l0 l1 m h0 h1 hm, stL_eq l0 l1 n h0 h1 (by omega), List.take_take, Nat.min_eq_left hn]
  have h := outS_take l0 l1 ((n + 15) / 16) ((m + 15) / 16) (by omega)
  rw [← h, List.take_take, Nat.min_eq_left (by omega)]
theorem xorB_twice (a s : List UInt8) (h : s.length = a.length) : xorB (xorB a s) s = a := by
  unfold xorB
  apply List.ext_getElem
  · simp [h]
  · intro i h1 h2
    simp only [List.getElem_zipWith]
    rw [UInt8.xor_assoc, UInt8.xor_self, UInt8.xor_zero]
theorem xorB_zero (s : List UInt8) (n : Nat) (h : s.length = n) : xorB (List.replicate n 0) s = s := by
  subst h
  unfold xorB
  apply List.ext_getElem
  · simp
  · intro i h1 h2
    simp only [List.getElem_zipWith, List.getElem_replicate]
    exact UInt8.zero_xor
theorem bd_nat8 {n : Int} (h : (Lit.int .u8 n).wf = true) : ∃ k : Nat, n = (k : Int) ∧ k < 256 := by
  have := bd_u8 h
  exact ⟨n.toNat, by omega, by omega⟩
theorem not8 (a : Nat) (h : a < 256) : bits .xor .u8 IntKind.u8.max (a : Int) = ((255 - a : Nat) : Int) := by
  have g : ∀ a : Fin 256, bits .xor .u8 IntKind.u8.max ((a.val : Nat) : Int) = ((255 - a.val : Nat) : Int) := by decide +kernel
  exact g ⟨a, h⟩
theorem one_yes (w : World) : Calls Try.prog 21 #[.bool true] w fun e w' => e = .returned (.int .i64 1) ∧ w' = w := by
  go_enter Try.func21, Try.ntmps21
  go_wp2
  go_ret
  exact ⟨rfl, rfl⟩
theorem one_no (w : World) : Calls Try.prog 21 #[.bool false] w fun e w' => e = .returned (.int .i64 0) ∧ w' = w := by
  go_enter Try.func21, Try.ntmps21
  go_wp2
  go_ret
  exact ⟨rfl, rfl⟩
theorem exec_makeN {w : World} (ρ : Operand → Value) (x : Operand) (t : TypeId) (n : Nat) (hx : ρ x = .int .i64 (n : Int)) (hn : n ≤ 2147483647) : (execOp ρ (mkOp (.makeSlice 22 x x) t)).run Try.prog w = .ok (.value (.slice (some ⟨w.heap.size, 0, none⟩) n n)) (w.alloc (.cells (madeCells #[.int .u8 0] n) 5)) := by
  have hm := run_make_row' (P := Try.prog) 22 5 (.int .u8 0) 1 Try.underlying22 Try.info5 rfl .i64 .i64 n (by omega) (by omega) w
  simp [execOp, mkOp, hx, hm, Result.andThen]
theorem wpList_makeO {ops : Array Oper} {rest : List Oper} {o : Oper} {a : Act} {w : World} {Q : Exit → Act → World → Prop} (hgd : o.guard = none) (x : Operand) (ho : o.op = .makeSlice 22 x x) (n : Nat) (hx : a.eval x = .int .i64 (n : Int)) (hn : n ≤ 2147483647)
    (h : ∀ v w', Bs w' v (List.replicate n 0) → Below w.heap.size w w' → wpList Try.prog ops Q rest (a.put o.dst v) w') : wpList Try.prog ops Q (o :: rest) a w :=
  wpList_plain hgd fun _ hK => by
    unfold Oper.wp
    rw [exec_mkOp, ho, exec_makeN a.eval x o.type n hx hn]
    exact hK _ _ (h _ _ (made_own w n (by unfold maxLen; omega)).bs ((Below.refl _ _).alloc (Nat.le_refl _) _))
end Go.Proofs.Ytiapkfeamochfaa
