/- Texts joined: what they are for stands ahead of each. -/
import Derived.Test.YtclbfbkbmiijnaaMM1
import Derived.StillTailTactics
set_option linter.unusedSimpArgs false
set_option linter.unusedVariables false

/- AES of the document: a block. -/
namespace Go.Proofs.Ytclbfbkbmiijnaa
open Go.RowKit Go.Deep
set_option linter.unusedSimpArgs false
set_option linter.unusedVariables false

/-- A slice's first 16 cells, and what stands behind them. -/
def sF (A : Nat → Nat) (F : Nat → Value) (j : Nat) : Value := if j < 16 then .int .u8 ((A j : Nat) : Int) else F j
theorem sF_cell {w : World} {b n : Nat} {t : TypeId} {A : Nat → Nat} {F : Nat → Value} (h : w.rowIs b t n (sF A F)) (hn : 16 ≤ n) (j : Nat) (hj : j < 16) {x : Nat} (hx : A j = x) : w.cell? ⟨b, j, none⟩ = some (.int .u8 (x : Int)) := by
  have h1 := h.cell (i := j) (by omega)
  unfold sF at h1
  rw [if_pos hj, hx] at h1
  exact h1
theorem sF_set {w : World} {b n : Nat} {t : TypeId} {A G : Nat → Nat} {F : Nat → Value} (h : w.rowIs b t n (sF A F)) (i z : Nat) (hi : i < 16) (hg : ∀ j, j < 16 → G j = if j = i then z else A j) : (w.setCell ⟨b, i, none⟩ (.int .u8 (z : Int))).rowIs b t n (sF G F) :=
  (h.set i _).congr fun j hj => by
    show (if j = i then _ else _) = _
    unfold sF
    by_cases h1 : j < 16
    · rw [if_pos h1, if_pos h1, hg j h1]
      split <;> rfl
    · rw [if_neg h1, if_neg h1, if_neg (by omega)]
theorem own_open {w : World} {base : Nat} {v : Value} {l : List UInt8} (h : Owns w base v l) (hne : 0 < l.length) : ∃ g c, v = .slice (some ⟨g, 0, none⟩) l.length c ∧ base ≤ g := by
  obtain ⟨_, h2⟩ := h
  rcases h2 with ⟨h2, h3⟩ | ⟨g, c, cur, h2, h3, _⟩
  · exact absurd h3 (by intro e; simp_all)
  · exact ⟨g, c, h2, h3⟩
theorem own_row16 {w : World} {base : Nat} {v : Value} {l : List UInt8} (h : Owns w base v l) (hl : l.length = 16) :
    ∃ (g c : Nat) (F : Nat → Value), v = .slice (some ⟨g, 0, none⟩) 16 c ∧ base ≤ g ∧ 16 ≤ c ∧ c ≤ maxLen ∧ w.rowIs g 5 c (sF (fun j => (l.getD j 0).toNat) F) := by
  obtain ⟨g, c, rfl, hg⟩ := own_open h (by omega)
  rw [hl] at h ⊢
  obtain ⟨f, hr⟩ := h.rowOf
  obtain ⟨ad2, n2, c2, he, q1, q2, q3, _⟩ := h.bs.shape
  cases he
  refine ⟨g, c, f, rfl, hg, q2, q3, hr.congr fun j hj => ?_⟩
  unfold sF
  by_cases h1 : j < 16
  · rw [if_pos h1]
    have h4 := h.cellAt hl.symm j (by omega)
    rw [hr.cell hj] at h4
    rw [Option.some.inj h4]
    show Value.int .u8 _ = Value.int .u8 (((l.getD j 0).toNat : Nat) : Int)
    rw [getD_at l j (by omega)]
  · rw [if_neg h1]
theorem wpList_make16 {ops : Array Oper} {rest : List Oper} {o : Oper} {a : Act} {w : World} {Q : Exit → Act → World → Prop} (hgd : o.guard = none) (ho : o.op = .makeSlice 22 (.const (.int .i64 16)) (.const (.int .i64 16)))
    (h : ∀ b F w', w.heap.size ≤ b → w'.rowIs b 5 16 (sF (fun _ => 0) F) → Below w.heap.size w w' → wpList Try.prog ops Q rest (a.put o.dst (.slice (some ⟨b, 0, none⟩) 16 16)) w') : wpList Try.prog ops Q (o :: rest) a w := by
  have hm : (Instr.makeSlice 22 (.int .i64 16) (.int .i64 16)).run Try.prog w = .ok (.slice (some ⟨w.heap.size, 0, none⟩) 16 16) (w.alloc (.cells (madeCells #[.int .u8 0] 16) 5)) := run_make_row' (P := Try.prog) 22 5 (.int .u8 0) 1 Try.underlying22 Try.info5 rfl .i64 .i64 16 (by omega) (by omega) w
  have e : a.eval (.const (.int .i64 16)) = .int .i64 16 := rfl
  have hr : (execOp a.eval (mkOp (.makeSlice 22 (.const (.int .i64 16)) (.const (.int .i64 16))) o.type)).run Try.prog w = .ok (.value (.slice (some ⟨w.heap.size, 0, none⟩) 16 16)) (w.alloc (.cells (madeCells #[.int .u8 0] 16) 5)) := by
    simp [execOp, mkOp, e, hm, Result.andThen]
  obtain ⟨g, c, F, he, hg, hc1, hc2, hrow⟩ := own_row16 (made_own w 16 (by unfold maxLen; omega)) (List.length_replicate)
  cases he
  have hrow2 : (w.alloc (.cells (madeCells #[.int .u8 0] 16) 5)).rowIs w.heap.size 5 16 (sF (fun _ => 0) F) := hrow.congr fun j hj => by
    unfold sF
    rw [if_pos hj, if_pos hj]
    show Value.int .u8 ((((List.replicate 16 (0 : UInt8)).getD j 0).toNat : Nat) : Int) = _
    rw [show (List.replicate 16 (0 : UInt8)).getD j 0 = 0 by rw [List.getD_eq_getElem?_getD, List.getElem?_replicate]; split <;> rfl]
    rfl
  exact wpList_plain hgd fun _ hK => by
    unfold Oper.wp
    rw [exec_mkOp, ho, hr]
    exact hK _ _ (h _ _ _ (Nat.le_refl _) hrow2 ((Below.refl _ _).alloc (Nat.le_refl _) _))
def arkN (A wv : Nat → Nat) (k j : Nat) : Nat := A j ^^^ wv (16 * k + j)
def shN (A : Nat → Nat) (j : Nat) : Nat := boxN (A (4 * ((j / 4 + j % 4) % 4) + j % 4))
def mixN (T : Nat → Nat) (j : Nat) : Nat := gfm (T (4 * (j / 4) + j % 4)) 2 ^^^ gfm (T (4 * (j / 4) + (j % 4 + 1) % 4)) 3 ^^^ T (4 * (j / 4) + (j % 4 + 2) % 4) ^^^ T (4 * (j / 4) + (j % 4 + 3) % 4)
def rdN (A wv : Nat → Nat) (k : Nat) : Nat → Nat := arkN (if k < 14 then mixN (shN A) else shN A) wv k
/-- The state behind k rounds. -/
def stN (b wv : Nat → Nat) : Nat → Nat → Nat
  | 0 => arkN b wv 0
  | k + 1 => rdN (stN b wv k) wv (k + 1)
theorem shN_lt (A : Nat → Nat) (j : Nat) : shN A j < 256 := boxN_lt _
theorem mixN_lt (T : Nat → Nat) (h : ∀ j, T j < 256) (j : Nat) : mixN T j < 256 := xor_lt8 (xor_lt8 (xor_lt8 (gfm_lt _ _ (h _)) (gfm_lt _ _ (h _))) (h _)) (h _)
theorem arkN_lt (A wv : Nat → Nat) (hA : ∀ j, A j < 256) (hw : ∀ j, wv j < 256) (k j : Nat) : arkN A wv k j < 256 := xor_lt8 (hA _) (hw _)
theorem stN_lt (b wv : Nat → Nat) (hb : ∀ j, b j < 256) (hw : ∀ j, wv j < 256) : ∀ k j, stN b wv k j < 256
  | 0, j => arkN_lt _ _ hb hw 0 j
  | k + 1, j => by
    refine arkN_lt _ _ (fun i => ?_) hw (k + 1) j
    split
    · exact mixN_lt _ (fun i => shN_lt _ i) i
    · exact shN_lt _ i
def nB (l : List UInt8) (j : Nat) : Nat := (l.getD j 0).toNat
theorem nB_lt (l : List UInt8) (j : Nat) : nB l j < 256 := UInt8.toNat_lt _
def upN (G A : Nat → Nat) (n j : Nat) : Nat := if j < n then G j else A j
theorem upN_zero (G A : Nat → Nat) : upN G A 0 = A := funext fun j => if_neg (Nat.not_lt_zero j)
theorem upN_at (G A : Nat → Nat) (n : Nat) : upN G A n n = A n := if_neg (Nat.lt_irrefl n)
theorem upN_step (G A : Nat → Nat) (n z : Nat) (h : G n = z) (j : Nat) (_ : j < 16) : upN G A (n + 1) j = if j = n then z else upN G A n j := by
  unfold upN
  by_cases e : j = n
  · rw [if_pos (by omega), if_pos e, e, h]
  · rw [if_neg e]
    by_cases h2 : j < n
    · rw [if_pos h2, if_pos (by omega)]
    · rw [if_neg h2, if_neg (by omega)]
theorem sF_all {w : World} {b n : Nat} {t : TypeId} {G A : Nat → Nat} {F : Nat → Value} (h : w.rowIs b t n (sF (upN G A 16) F)) : w.rowIs b t n (sF G F) := h.congr fun j hj => by
  unfold sF upN
  split <;> rfl
theorem wpList_store_s {P : Program} {ops : Array Oper} {rest : List Oper} {o : Oper} {a : Act} {w : World} {Q : Exit → Act → World → Prop} (hgd : o.guard = none) (ty : TypeId) (x y : Operand) (ho : o.op = .store ty x y) {b i z n : Nat} {t : TypeId} {A : Nat → Nat} {F : Nat → Value} (G : Nat → Nat) (hr : w.rowIs b t n (sF A F)) (hn : 16 ≤ n) (hi : i < 16)
    (hx : a.eval x = .pointer (some ⟨b, i, none⟩)) (hy : a.eval y = .int .u8 (z : Int)) (hs : (P.info? ty).map (fun i => i.size) = some 1) (hg : ∀ j, j < 16 → G j = if j = i then z else A j)
    (h : ∀ w', w'.rowIs b t n (sF G F) → w.grownBy w' (some b) → wpList P ops Q rest (a.put o.dst undef) w') : wpList P ops Q (o :: rest) a w := by
  have hx' := exec_store_cell (P := P) a.eval ty x y o.type hr hx hy hs rfl rfl (by omega)
  exact wpList_plain hgd fun _ hK => by
    unfold Oper.wp
    rw [exec_mkOp, ho, hx']
    exact hK _ _ (h _ (sF_set hr i z hi hg) (grownBy_set _ _ _ _))
def EqA (W : World) : Nat → World → Prop := fun _ w' => w' = W
section
variable {P : Program} {ops : Array Oper} {Q : Exit → Act → World → Prop} {r : List (Nat × Option (List Nat))} {a : Act} {w : World} {o : Oper} {i : Nat}
theorem ea_start {id : Nat} (r : List (Nat × Option (List Nat))) (hm : P.follows .mixedOrders = true) (hs : Region.noSelect ops = true) (hl : r.length ≤ ops.size)
    (hk : linsOk ops r (Array.replicate ops.size false) = true) (hQ : ∀ d v c a w, Q (.panic c) (Act.put a d v) w → Q (.panic c) a w)
    (h : LinS P ops Q r (EqA w.drew) a w.drew) : (Code.region id ops true).wp P Q a w :=
  wp_region_lins r (EqA w.drew) hm hs hl hk hQ (fun _ _ => rfl) h
theorem ea_rd {c : Nat} {C : List Nat} {op : Op} {t : TypeId} (d : Nat) (v : Value) (ho : ops[i]? = some o) (hd : o.dst = some d) (hop : o.op = op) (ht : o.type = t) (hw : Region.wanted o (yielded ops a.tmps) = true)
    (hy : (execOp a.eval (mkOp op t)).run P w = .ok (.value v) w) (h : LinS P ops Q r (EqA w) (a.put (some d) v) w) : LinS P ops Q ((i, some (c :: C)) :: r) (EqA w) a w :=
  lins_read d op t v ho hd hop ht hw (fun w' hw' => by rw [hw' c List.mem_cons_self]; exact hy) h
theorem ea_call {fn : Func} {f : Nat} {xs : Array Operand} {ts : Array TypeId} {args : Array Value} {v : Value} (d : Nat) (hcon : Calls P f args w fun e w' => e = .returned v ∧ w' = w)
    (ho : ops[i]? = some o) (hd : o.dst = some d) (hop : o.op = .call { callee := .value (.func f), args := xs, argTypes := ts })
    (hw : Region.wanted o (yielded ops a.tmps) = true) (hf : P.funcs[f]? = some fn) (hn : (fn.name == "runtime.NumGoroutine") = false) (hb : fn.body.isNone = false) (hargs : xs.map a.eval = args)
    (h : LinS P ops Q r (EqA w) (a.put (some d) v) w) : LinS P ops Q ((i, none) :: r) (EqA w) a w :=
  lins_fn (some d) f xs ts args hcon ho hd hop hw hf hn hb hargs fun e w' hT => by
    obtain ⟨rfl, rfl⟩ := hT
    exact ⟨v, rfl, EqA w', fun c _ => ⟨rfl, fun _ h => h⟩, h⟩
theorem ea_store {R : Nat → World → Prop} {ty : TypeId} {x y : Operand} {t t' : TypeId} {b j z n : Nat} {A : Nat → Nat} {F : Nat → Value} (G : Nat → Nat) (hr : writers r = []) (ho : ops[i]? = some o) (hd : o.dst = none) (hop : o.op = .store ty x y) (ht : o.type = t) (hw : Region.wanted o (yielded ops a.tmps) = true)
    (hrow : w.rowIs b t' n (sF A F)) (hn : 16 ≤ n) (hi : j < 16) (hx : a.eval x = .pointer (some ⟨b, j, none⟩)) (hy : a.eval y = .int .u8 (z : Int)) (hs : (P.info? ty).map (fun i => i.size) = some 1) (hg : ∀ k, k < 16 → G k = if k = j then z else A k)
    (h : ∀ w', w'.rowIs b t' n (sF G F) → w.grownBy w' (some b) → LinS P ops Q r Any a w') : LinS P ops Q ((i, none) :: r) R a w :=
  lins_store _ t _ ho hd hop ht hw (exec_store_cell (P := P) a.eval ty x y t hrow hx hy hs rfl rfl (by omega)) Any (fun c hc => by rw [hr] at hc; cases hc) (h _ (sF_set hrow j z hi hg) (grownBy_set _ _ _ _))
end
def blkL (A : Nat → Nat) : List UInt8 := (List.range 16).map fun j => UInt8.ofNat (A j)
theorem Bs16 {w : World} {g c : Nat} {A : Nat → Nat} {F : Nat → Value} (h : w.rowIs g 5 c (sF A F)) (hc1 : 16 ≤ c) (hc2 : c ≤ maxLen) (hA : ∀ j, A j < 256) : Bs w (.slice (some ⟨g, 0, none⟩) 16 c) (blkL A) := by
  have hl : (blkL A).length = 16 := by simp [blkL]
  have h9 := Bs.of_rowIs h (blkL A) (by rw [hl]; exact hc1) hc2 (fun i hi => by
    rw [hl] at hi
    unfold sF
    rw [if_pos hi]
    simp only [blkL, List.getElem_map, List.getElem_range]
    rw [UInt8.toNat_ofNat_of_lt' (hA i)])
  rwa [hl] at h9
set_option maxHeartbeats 4000000 in
set_option maxRecDepth 20000 in
theorem refBlockW_any (v0 : Value) (l0 : List UInt8) (v2 : Value) (l2 : List UInt8) (w : World) (h0 : Bs w v0 l0) (hl0 : l0.length = 240) (h2 : Bs w v2 l2) (hl2 : l2.length = 16) : Calls Try.prog 33 #[v0, .agg (arrOf 256 (cF .u8 boxN)), v2] w fun e w' => ∃ v, e = .returned v ∧ Bs w' v (blkL (stN (nB l2) (nB l0) 14)) ∧ Below w.heap.size w w' := by
  obtain ⟨ga, oa, ca, rfl, hq1, hq2, hq3, hq4⟩ := h0.open_n (n := 240) hl0 (by decide)
  have HF := Lib.hid h0
  have f_2 := h2
  have HL0 := Lib.hid hl0
  have HL2 := Lib.hid hl2
  have Bw0 := Below.refl w.heap.size w
  have HGS : Hid (∀ wq : World, Below w.heap.size w wq → w.heap.size ≤ wq.heap.size) := Lib.hid fun wq h => h.size
  obtain ⟨RES, hRES⟩ : ∃ R, R = stN (nB l2) (nB l0) 14 := ⟨_, rfl⟩
  rw [← hRES]
  have HRES := Lib.hid hRES
  clear h0 h2 hl0 hl2 hRES hq1 hq2 hq3 hq4
  go_enter Try.func33, Try.ntmps33
  go_wp2_with (first
    | (have hgo := Bw0; clear hgo
       refine wpList_box_row rfl 51 (.tmp 1) rfl 256 (cF .u8 boxN) rfl ?_
       intro b_t4 w1 lk r_t4 kk
       have l_t4 := zrl HGS Bw0 lk
       replace f_2 := zfb f_2 kk
       have Bw1 := zbt HGS Bw0 kk
       obtain ⟨BS, hBS⟩ : ∃ n, n = w1.heap.size := ⟨_, rfl⟩
       have HB4 : Hid (b_t4 < BS) := Lib.hid (by rw [hBS]; exact World.rowIs.lt r_t4)
       have HB0 : Hid (w.heap.size ≤ BS) := Lib.hid (by rw [hBS]; exact HGS.out _ Bw1)
       have hbs : BS ≤ w1.heap.size := by rw [hBS]; exact Nat.le_refl _
       clear Bw0 kk lk hBS)
    | (have hgo := Bw1; clear hgo
       refine wpList_empty rfl rfl ?_
       intro v_e w2 o_e kk
       replace o_e := Owns.lower o_e hbs
       replace r_t4 := zrb r_t4 kk
       replace f_2 := zfb f_2 kk
       replace hbs := Nat.le_trans hbs kk.size
       have Bw2 := zbt HGS Bw1 kk
       clear Bw1 kk)
    | (have hgo := Bw2; clear hgo
       refine wpList_appA rfl (.tmp 17) (.tmp 18) rfl BS _ _ [] l2 o_e f_2 rfl rfl (by rw [HL2.out]; decide) hbs ?_
       intro v_k w3 o_k g3 ho3
       replace r_t4 := World.rowIs.of_block r_t4 (g3.block _ (World.rowIs.lt r_t4) (fun e => absurd (Owns.block o_e _ e.symm) (Nat.not_le_of_lt HB4.out)))
       have Bw3 := Bw2.grown g3 (HGS.out _ Bw2) (fun j hj => Nat.le_trans HB0.out (Owns.block o_e j hj))
       rw [List.nil_append] at o_k
       obtain ⟨gs, cs, Fs, rfl, hgs, hcs1, hcs2, r_s⟩ := own_row16 o_k HL2.out
       have HCS := Lib.hid (And.intro hcs1 hcs2)
       have HGB := Lib.hid (Nat.le_trans HB0.out hgs)
       have HN4 : Hid (b_t4 ≠ gs) := Lib.hid (Nat.ne_of_lt (Nat.lt_of_lt_of_le HB4.out hgs))
       replace r_s : w3.rowIs gs 5 cs (sF (nB l2) Fs) := r_s
       clear Bw2 g3 ho3 o_e f_2 o_k hbs hgs hcs1 hcs2))
  go_loopw [8] (fun iv wr => ∃ k : Nat, k ≤ 16 ∧ iv = .int .i64 (k : Int) ∧ wr.rowIs b_t4 51 256 (cF .u8 boxN) ∧ wr.rowIs gs 5 cs (sF (upN (arkN (nB l2) (nB l0) 0) (nB l2) k) Fs) ∧ Below w.heap.size w wr) (fun iv _ => 16 - (intOf iv).toNat)
  case atStart => exact ⟨0, by decide, rfl, r_t4, by rw [upN_zero]; exact r_s, Bw3⟩
  case round =>
    clear r_t4 r_s Bw3
    obtain ⟨k, hk, rfl, r_t4, r_s, Bw0⟩ := hrel
    by_cases hlt : k < 16
    · have hkI : 0 ≤ (k : Int) ∧ (k : Int) < 16 := by omega
      have hkJ : (k : Int) < 240 := by omega
      have HK := Lib.hid hlt
      obtain ⟨x, hx⟩ := nat_var (nB l2 k)
      obtain ⟨y, hy⟩ := nat_var (nB l0 k)
      obtain ⟨z, hz⟩ := nat_var (x ^^^ y)
      have e1 : bits .xor .u8 (x : Int) (y : Int) = (z : Int) := by rw [hz]; exact bits_xorN x y (by rw [hx]; exact nB_lt _ _) (by rw [hy]; exact nB_lt _ _)
      have HZ : Hid (arkN (nB l2) (nB l0) 0 k = z) := Lib.hid (by unfold arkN; rw [hz, hx, hy, Nat.mul_zero, Nat.zero_add])
      have c1 := sF_cell r_s HCS.out.1 k hlt (x := x) (by rw [upN_at, hx])
      have c2 := bs_cell (HF.out.below Bw0 (Nat.le_refl _)) k (by rw [HL0.out]; omega)
      rw [← getD_at l0 k (by rw [HL0.out]; omega), show (l0.getD k 0).toNat = y from hy.symm] at c2
      have hfr := r_s.frozen k
      clear hx hy hz hk hlt
      go_wp2
      go_region
      go_wp2
      go_roundw
      case rel => exact ⟨k + 1, HK.out, by have := HK.out; go_num, World.rowIs.setOther r_t4.drew HN4.out _, sF_set r_s.drew k z HK.out (upN_step _ _ k z HZ.out), (Bw0.drew).setCell HGB.out _⟩
      case measure => (have := HK.out; simp [intOf]; try omega)
    · obtain rfl : k = 16 := by omega
      replace r_s := sF_all r_s
      replace r_s : wr.rowIs gs 5 cs (sF (stN (nB l2) (nB l0) 0) Fs) := r_s
      clear hk hlt
      rw [show ((16 : Nat) : Int) = 16 from rfl]
      go_wp2
      go_loopw [9] (fun iv wr => ∃ k : Nat, k ≤ 14 ∧ iv = .int .i64 ((k + 1 : Nat) : Int) ∧ wr.rowIs b_t4 51 256 (cF .u8 boxN) ∧ wr.rowIs gs 5 cs (sF (stN (nB l2) (nB l0) k) Fs) ∧ Below w.heap.size w wr) (fun iv _ => 15 - (intOf iv).toNat)
      case atStart => exact ⟨0, by decide, rfl, r_t4, r_s, Bw0⟩
      case round =>
        clear r_t4 r_s Bw0
        obtain ⟨k, hk, rfl, r_t4, r_s, Bw0⟩ := hrel
        obtain ⟨k1, hk1⟩ := nat_var (k + 1)
        rw [← hk1]
        by_cases hlt : k < 14
        · have HK := Lib.hid hlt
          have hkJ : (k1 : Int) ≤ 14 := by omega
          have HK1 := Lib.hid hk1
          obtain ⟨A, hA⟩ : ∃ A, A = stN (nB l2) (nB l0) k := ⟨_, rfl⟩
          have HA := Lib.hid hA
          have HAL : Hid (∀ j, A j < 256) := Lib.hid (by rw [hA]; exact stN_lt _ _ (nB_lt _) (nB_lt _) k)
          rw [← hA] at r_s
          clear hA hk hlt hk1
          go_wp2_with (first
            | (have hgo := Bw0; clear hgo
               refine wpList_make16 rfl rfl ?_
               intro gt Ft w4 lk r_t kk
               have HLT := Lib.hid (zrl HGS Bw0 lk)
               have HN4t : Hid (b_t4 ≠ gt) := Lib.hid (zrn r_t4 lk)
               have HNst : Hid (gs ≠ gt) := Lib.hid (zrn r_s lk)
               replace r_t4 := zrb r_t4 kk
               replace r_s := zrb r_s kk
               have Bw1 := zbt HGS Bw0 kk
               clear Bw0 kk lk))
          go_loopw [11] (fun cv wr => ∃ c : Nat, c ≤ 4 ∧ cv = .int .i64 (c : Int) ∧ wr.rowIs b_t4 51 256 (cF .u8 boxN) ∧ wr.rowIs gs 5 cs (sF A Fs) ∧ wr.rowIs gt 5 16 (sF (upN (shN A) (fun _ => 0) (4 * c)) Ft) ∧ Below w.heap.size w wr) (fun cv _ => 4 - (intOf cv).toNat)
          case atStart => exact ⟨0, by decide, rfl, r_t4, r_s, by rw [Nat.mul_zero, upN_zero]; exact r_t, Bw1⟩
          case round =>
            clear r_t4 r_s r_t Bw1
            obtain ⟨c, hc, rfl, r_t4, r_s, r_t, Bw0⟩ := hrel
            by_cases hlc : c < 4
            · have hcI : (c : Int) < 4 := by omega
              have HC := Lib.hid hlc
              clear hc hlc
              go_wp2
              clear hcI
              go_loopw [12] (fun rv wr => ∃ r : Nat, r ≤ 4 ∧ rv = .int .i64 (r : Int) ∧ wr.rowIs b_t4 51 256 (cF .u8 boxN) ∧ wr.rowIs gs 5 cs (sF A Fs) ∧ wr.rowIs gt 5 16 (sF (upN (shN A) (fun _ => 0) (4 * c + r)) Ft) ∧ Below w.heap.size w wr) (fun rv _ => 4 - (intOf rv).toNat)
              case atStart => exact ⟨0, by decide, rfl, r_t4, r_s, r_t, Bw0⟩
              case round =>
                clear r_t4 r_s r_t Bw0
                obtain ⟨r, hr, rfl, r_t4, r_s, r_t, Bw0⟩ := hrel
                by_cases hlr : r < 4
                · have hc4 := HC.out
                  have hrI : (r : Int) < 4 := by omega
                  obtain ⟨f4, hf4⟩ := nat_var (4 * c)
                  obtain ⟨n, hn⟩ := nat_var (f4 + r)
                  obtain ⟨cr, hcr⟩ := nat_var (c + r)
                  obtain ⟨d, hd⟩ := nat_var (cr % 4)
                  obtain ⟨d4, hd4⟩ := nat_var (4 * d)
                  obtain ⟨q, hq⟩ := nat_var (d4 + r)
                  have hw1 : IntKind.i64.wrap (4 * (c : Int)) = (f4 : Int) := by rw [IntWalk.i64_in _ (by omega)]; omega
                  have hw2 : IntKind.i64.wrap ((f4 : Int) + (r : Int)) = (n : Int) := by rw [IntWalk.i64_in _ (by omega)]; omega
                  have hw3 : IntKind.i64.wrap ((c : Int) + (r : Int)) = (cr : Int) := by rw [IntWalk.i64_in _ (by omega)]; omega
                  have hw4 : (cr : Int).tmod 4 = (d : Int) := by rw [Int.tmod_eq_emod_of_nonneg (by omega)]; omega
                  have hw5 : IntKind.i64.wrap ((cr : Int).tmod 4) = (d : Int) := by rw [hw4, IntWalk.i64_in _ (by omega)]
                  have hw6 : IntKind.i64.wrap (4 * (d : Int)) = (d4 : Int) := by rw [IntWalk.i64_in _ (by omega)]; omega
                  have hw7 : IntKind.i64.wrap ((d4 : Int) + (r : Int)) = (q : Int) := by rw [IntWalk.i64_in _ (by omega)]; omega
                  have hqI : 0 ≤ (q : Int) ∧ (q : Int) < 16 := by omega
                  have hnI : 0 ≤ (n : Int) ∧ (n : Int) < 16 := by omega
                  obtain ⟨a, ha⟩ := nat_var (A q)
                  have hal : a < 256 := by rw [ha]; exact HAL.out q
                  have haI : 0 ≤ (a : Int) ∧ (a : Int) < 256 := by omega
                  obtain ⟨z, hz⟩ := nat_var (boxN a)
                  have HZ : Hid (shN A n = z) := Lib.hid (by
                    unfold shN
                    rw [show n / 4 = c by omega, show n % 4 = r by omega, ← hcr, ← hd, ← hd4, ← hq, ← ha, hz])
                  have c1 := sF_cell r_s HCS.out.1 q (by omega) (x := a) ha.symm
                  have c2 : wr.cell? ⟨b_t4, a, none⟩ = some (.int .u8 (z : Int)) := by rw [hz]; exact r_t4.cell hal
                  have HNL : Hid (n < 16) := Lib.hid (by omega)
                  have HNE : Hid (4 * c + r = n) := Lib.hid (by omega)
                  have HR := Lib.hid hlr
                  rw [HNE.out] at r_t
                  clear hc4 hf4 hn hcr hd hd4 hq ha hal hz hr hlr
                  go_wp2_with (first
                    | (have hgo := HZ; clear hgo
                       refine wpList_store_s rfl 5 (.tmp 66) (.tmp 65) rfl (upN (shN A) (fun _ => 0) (n + 1)) r_t (Nat.le_refl _) HNL.out rfl rfl (by kernel_rfl) (upN_step _ _ n z HZ.out) ?_
                       intro w5 q5 g5
                       replace r_t4 := gb_rowIs r_t4 g5 HN4t.out
                       replace r_s := gb_rowIs r_s g5 HNst.out
                       have Bw1 := zbg HGS Bw0 g5 HLT.out
                       clear Bw0 g5 r_t c1 c2))
                  go_roundw
                  case rel => exact ⟨r + 1, HR.out, by have := HR.out; go_num, r_t4, r_s, by rw [← Nat.add_assoc, HNE.out]; exact q5, Bw1⟩
                  case measure => (have := HR.out; simp [intOf]; try omega)
                · obtain rfl : r = 4 := by omega
                  have hc4 := HC.out
                  obtain ⟨c1, hc1⟩ := nat_var (c + 1)
                  have hwc : IntKind.i64.wrap ((c : Int) + 1) = (c1 : Int) := by rw [IntWalk.i64_in _ (by omega)]; omega
                  have HC1 := Lib.hid hc1
                  clear hr hlr hc4 hc1
                  go_wp2
                  go_roundw
                  case rel => exact ⟨c + 1, HC.out, by rw [HC1.out], r_t4, r_s, r_t, Bw0⟩
                  case measure => (have := HC.out; have := HC1.out; simp [intOf]; try omega)
            · obtain rfl : c = 4 := by omega
              replace r_t := sF_all (A := fun _ => 0) r_t
              clear hc hlc
              rw [show ((4 : Nat) : Int) = 4 from rfl]
              by_cases h14 : k1 < 14
              · have h14I : (k1 : Int) < 14 := by omega
                obtain ⟨G, hG⟩ : ∃ G, G = mixN (shN A) := ⟨_, rfl⟩
                have HGE : Hid (G = if k1 < 14 then mixN (shN A) else shN A) := Lib.hid (by rw [if_pos h14]; exact hG)
                have HGL : Hid (∀ j, G j < 256) := Lib.hid (by rw [hG]; exact mixN_lt _ (shN_lt A))
                have HGM := Lib.hid hG
                clear h14 hG
                go_wp2
                clear h14I
                go_loopw [13] (fun cv wr => ∃ c : Nat, c ≤ 4 ∧ cv = .int .i64 (c : Int) ∧ wr.rowIs b_t4 51 256 (cF .u8 boxN) ∧ wr.rowIs gs 5 cs (sF A Fs) ∧ wr.rowIs gt 5 16 (sF (upN G (shN A) (4 * c)) Ft) ∧ Below w.heap.size w wr) (fun cv _ => 4 - (intOf cv).toNat)
                case atStart => exact ⟨0, by decide, rfl, r_t4, r_s, by rw [Nat.mul_zero, upN_zero]; exact r_t, Bw0⟩
                case round =>
                  clear r_t4 r_s r_t Bw0
                  obtain ⟨c, hc, rfl, r_t4, r_s, r_t, Bw0⟩ := hrel
                  by_cases hlc : c < 4
                  · have hcI : (c : Int) < 4 := by omega
                    have HC := Lib.hid hlc
                    obtain ⟨f4, hf4⟩ := nat_var (4 * c)
                    obtain ⟨f8, hf8⟩ := nat_var (f4 + 4)
                    have hw1 : IntKind.i64.wrap (4 * (c : Int)) = (f4 : Int) := by rw [IntWalk.i64_in _ (by omega)]; omega
                    have hw2 : IntKind.i64.wrap ((f4 : Int) + 4) = (f8 : Int) := by rw [IntWalk.i64_in _ (by omega)]; omega
                    have hub : ∀ j, upN G (shN A) (4 * c) j < 256 := fun j => by
                      unfold upN
                      split
                      · exact HGL.out j
                      · exact shN_lt A j
                    have f_t := Bs16 r_t (Nat.le_refl 16) (by unfold maxLen; omega) hub
                    obtain ⟨X, hX⟩ : ∃ X, X = ((blkL (upN G (shN A) (4 * c))).take f8).drop f4 := ⟨_, rfl⟩
                    have hbl : (blkL (upN G (shN A) (4 * c))).length = 16 := by simp [blkL]
                    have hXl : X.length = 4 := by rw [hX, List.length_drop, List.length_take, hbl]; omega
                    have hXg : ∀ r, r < 4 → (X.getD r 0).toNat = shN A (f4 + r) := fun r hr => by
                      rw [hX, List.getD_eq_getElem?_getD, List.getElem?_drop, List.getElem?_take_of_lt (by omega)]
                      have h9 : (blkL (upN G (shN A) (4 * c)))[f4 + r]? = some (UInt8.ofNat (upN G (shN A) (4 * c) (f4 + r))) := by
                        simp [blkL, show f4 + r < 16 by omega]
                      rw [h9]
                      show (UInt8.ofNat _).toNat = _
                      rw [UInt8.toNat_ofNat_of_lt' (hub _)]
                      exact if_neg (by omega)
                    have HX := Lib.hid hX
                    have HXL := Lib.hid hXl
                    have HXG := Lib.hid hXg
                    have HF4 := Lib.hid hf4
                    have HLM : Hid (f4 ≤ f8 ∧ f8 ≤ (blkL (upN G (shN A) (4 * c))).length) := Lib.hid (by rw [hbl]; omega)
                    have HGT := Lib.hid (World.rowIs.lt r_t)
                    have HWB4 := Lib.hid (World.rowIs.lt r_t4)
                    have HWBs := Lib.hid (World.rowIs.lt r_s)
                    clear hX hXl hXg hbl hub hf8 hf4 hc hlc
                    go_wp2_with (first
                      | (have hgo := Bw0; clear hgo
                         refine wpList_empty rfl rfl ?_
                         intro v_e w5 o_e kk
                         have HWS : Hid (Below w.heap.size w wr) := Lib.hid Bw0
                         replace r_t4 := zrb r_t4 kk
                         replace r_s := zrb r_s kk
                         replace r_t := zrb r_t kk
                         replace f_t := zfb f_t kk
                         have HB4 := Lib.hid (World.rowIs.lt r_t4)
                         have hsz := kk.size
                         have Bw1 := zbt HGS Bw0 kk
                         have HW0 := Lib.hid (HGS.out _ HWS.out)
                         clear Bw0 kk HB4)
                      | (have hgo := f_t; clear hgo
                         obtain ⟨v_x, f_x, hrx⟩ := partBA f_t f4 f8 HLM.out.1 HLM.out.2
                         rw [← HX.out] at f_x
                         refine wpList_value rfl _ (by rw [exec_mkOp]; exact hrx _ _ _ _ _ _ rfl rfl rfl) ?_
                         clear hrx f_t)
                      | (have hgo := Bw1; clear hgo
                         refine wpList_appA rfl (.tmp 73) (.tmp 80) rfl wr.heap.size _ _ [] X o_e f_x rfl rfl (by rw [HXL.out]; decide) hsz ?_
                         intro vx w6 o_x g6 ho6
                         rw [List.nil_append] at o_x
                         have hne : ∀ b, b < wr.heap.size → v_e.ownBlock ≠ some b := fun b hb e => absurd (Owns.block o_e _ e) (Nat.not_le_of_lt hb)
                         replace r_t4 := World.rowIs.of_block r_t4 (g6.block _ (World.rowIs.lt r_t4) (fun e => hne _ HWB4.out e.symm))
                         replace r_s := World.rowIs.of_block r_s (g6.block _ (World.rowIs.lt r_s) (fun e => hne _ HWBs.out e.symm))
                         replace r_t := World.rowIs.of_block r_t (g6.block _ (World.rowIs.lt r_t) (fun e => hne _ HGT.out e.symm))
                         have HAX : Hid (Away vx gt) := Lib.hid (Owns.away o_x HGT.out)
                         have Bw2 := Bw1.grown g6 (HGS.out _ Bw1) (fun j hj => Nat.le_trans HW0.out (Owns.block o_e j hj))
                         have f_x2 := o_x.bs
                         clear Bw1 g6 ho6 o_e f_x hsz o_x hne))
                    obtain ⟨gx, ox, cx, rfl, hz1, hz2, hz3, hz4⟩ := f_x2.open_n (n := 4) HXL.out (by decide)
                    clear hz1 hz2 hz3 hz4 hcI hw1 hw2
                    go_loopw [15] (fun rv wr => ∃ r : Nat, r ≤ 4 ∧ rv = .int .i64 (r : Int) ∧ wr.rowIs b_t4 51 256 (cF .u8 boxN) ∧ wr.rowIs gs 5 cs (sF A Fs) ∧ wr.rowIs gt 5 16 (sF (upN G (shN A) (4 * c + r)) Ft) ∧ Bs wr (.slice (some ⟨gx, ox, none⟩) 4 cx) X ∧ Below w.heap.size w wr) (fun rv _ => 4 - (intOf rv).toNat)
                    case atStart => exact ⟨0, by decide, rfl, r_t4, r_s, r_t, f_x2, Bw2⟩
                    case round =>
                      clear r_t4 r_s r_t f_x2 Bw2
                      obtain ⟨r, hr, rfl, r_t4, r_s, r_t, f_x, Bw0⟩ := hrel
                      by_cases hlr : r < 4
                      · have hc4 := HC.out
                        have hf4 := HF4.out
                        have hrI : 0 ≤ (r : Int) ∧ (r : Int) < 4 := by omega
                        obtain ⟨n, hn⟩ := nat_var (f4 + r)
                        have hw1 : IntKind.i64.wrap (4 * (c : Int)) = (f4 : Int) := by rw [IntWalk.i64_in _ (by omega)]; omega
                        have hw2 : IntKind.i64.wrap ((f4 : Int) + (r : Int)) = (n : Int) := by rw [IntWalk.i64_in _ (by omega)]; omega
                        have hnI : 0 ≤ (n : Int) ∧ (n : Int) < 16 := by omega
                        obtain ⟨x0, hx0⟩ := nat_var (X.getD r 0).toNat
                        have d0 := bs_cell f_x r (by rw [HXL.out]; omega)
                        rw [← getD_at X r (by rw [HXL.out]; omega), ← hx0] at d0
                        replace d0 : wr.drew.cell? ⟨gx, ox + r, none⟩ = some (.int .u8 (x0 : Int)) := d0
                        obtain ⟨r1, hr1⟩ := nat_var (r + 1)
                        obtain ⟨q1, hq1⟩ := nat_var (r1 % 4)
                        have hv1 : IntKind.i64.wrap ((r : Int) + 1) = (r1 : Int) := by rw [IntWalk.i64_in _ (by omega)]; omega
                        have hu1 : (r1 : Int).tmod 4 = (q1 : Int) := by rw [Int.tmod_eq_emod_of_nonneg (by omega)]; omega
                        have ht1 : IntKind.i64.wrap ((r1 : Int).tmod 4) = (q1 : Int) := by rw [hu1, IntWalk.i64_in _ (by omega)]
                        have hqi1 : 0 ≤ (q1 : Int) ∧ (q1 : Int) < 4 := by omega
                        obtain ⟨x1, hx1⟩ := nat_var (X.getD q1 0).toNat
                        have d1 := bs_cell f_x q1 (by rw [HXL.out]; omega)
                        rw [← getD_at X q1 (by rw [HXL.out]; omega), ← hx1] at d1
                        replace d1 : wr.drew.cell? ⟨gx, ox + q1, none⟩ = some (.int .u8 (x1 : Int)) := d1
                        obtain ⟨r2, hr2⟩ := nat_var (r + 2)
                        obtain ⟨q2, hq2⟩ := nat_var (r2 % 4)
                        have hv2 : IntKind.i64.wrap ((r : Int) + 2) = (r2 : Int) := by rw [IntWalk.i64_in _ (by omega)]; omega
                        have hu2 : (r2 : Int).tmod 4 = (q2 : Int) := by rw [Int.tmod_eq_emod_of_nonneg (by omega)]; omega
                        have ht2 : IntKind.i64.wrap ((r2 : Int).tmod 4) = (q2 : Int) := by rw [hu2, IntWalk.i64_in _ (by omega)]
                        have hqi2 : 0 ≤ (q2 : Int) ∧ (q2 : Int) < 4 := by omega
                        obtain ⟨x2, hx2⟩ := nat_var (X.getD q2 0).toNat
                        have d2 := bs_cell f_x q2 (by rw [HXL.out]; omega)
                        rw [← getD_at X q2 (by rw [HXL.out]; omega), ← hx2] at d2
                        replace d2 : wr.drew.cell? ⟨gx, ox + q2, none⟩ = some (.int .u8 (x2 : Int)) := d2
                        obtain ⟨r3, hr3⟩ := nat_var (r + 3)
                        obtain ⟨q3, hq3⟩ := nat_var (r3 % 4)
                        have hv3 : IntKind.i64.wrap ((r : Int) + 3) = (r3 : Int) := by rw [IntWalk.i64_in _ (by omega)]; omega
                        have hu3 : (r3 : Int).tmod 4 = (q3 : Int) := by rw [Int.tmod_eq_emod_of_nonneg (by omega)]; omega
                        have ht3 : IntKind.i64.wrap ((r3 : Int).tmod 4) = (q3 : Int) := by rw [hu3, IntWalk.i64_in _ (by omega)]
                        have hqi3 : 0 ≤ (q3 : Int) ∧ (q3 : Int) < 4 := by omega
                        obtain ⟨x3, hx3⟩ := nat_var (X.getD q3 0).toNat
                        have d3 := bs_cell f_x q3 (by rw [HXL.out]; omega)
                        rw [← getD_at X q3 (by rw [HXL.out]; omega), ← hx3] at d3
                        replace d3 : wr.drew.cell? ⟨gx, ox + q3, none⟩ = some (.int .u8 (x3 : Int)) := d3
                        have HXB0 : Hid (x0 < 256) := Lib.hid (by rw [hx0]; exact UInt8.toNat_lt _)
                        have HXB1 : Hid (x1 < 256) := Lib.hid (by rw [hx1]; exact UInt8.toNat_lt _)
                        have hb2 : x2 < 256 := by rw [hx2]; exact UInt8.toNat_lt _
                        have hb3 : x3 < 256 := by rw [hx3]; exact UInt8.toNat_lt _
                        obtain ⟨y1, hy1⟩ := nat_var (gfm x0 2 ^^^ gfm x1 3)
                        obtain ⟨y2, hy2⟩ := nat_var (y1 ^^^ x2)
                        obtain ⟨z, hz⟩ := nat_var (y2 ^^^ x3)
                        have hy1l : y1 < 256 := by rw [hy1]; exact xor_lt8 (gfm_lt _ _ HXB0.out) (gfm_lt _ _ HXB1.out)
                        have hy2l : y2 < 256 := by rw [hy2]; exact xor_lt8 hy1l hb2
                        have e1 : bits .xor .u8 ((gfm x0 2 : Nat) : Int) ((gfm x1 3 : Nat) : Int) = (y1 : Int) := by rw [hy1]; exact bits_xorN _ _ (gfm_lt _ _ HXB0.out) (gfm_lt _ _ HXB1.out)
                        have e2 : bits .xor .u8 (y1 : Int) (x2 : Int) = (y2 : Int) := by rw [hy2]; exact bits_xorN _ _ hy1l hb2
                        have e3 : bits .xor .u8 (y2 : Int) (x3 : Int) = (z : Int) := by rw [hz]; exact bits_xorN _ _ hy2l hb3
                        have HZ : Hid (G n = z) := Lib.hid (by
                          rw [HGM.out]
                          unfold mixN
                          rw [show n / 4 = c by omega, show n % 4 = r by omega, ← hf4, hz, hy2, hy1, hx0, hx1, hx2, hx3, HXG.out r hlr, HXG.out q1 (by omega), HXG.out q2 (by omega), HXG.out q3 (by omega), hq1, hq2, hq3, hr1, hr2, hr3])
                        have HNL : Hid (n < 16) := Lib.hid (by omega)
                        have HNE : Hid (4 * c + r = n) := Lib.hid (by omega)
                        have HR := Lib.hid hlr
                        have HR1 := Lib.hid hr1
                        rw [HNE.out] at r_t
                        clear hc4 hf4 hn hr hlr hr1 hr2 hr3 hq1 hq2 hq3 hx0 hx1 hx2 hx3 hb2 hb3 hy1 hy2 hz hy1l hy2l
                        replace r_t4 := World.rowIs.drew r_t4
                        replace r_s := World.rowIs.drew r_s
                        replace r_t := World.rowIs.drew r_t
                        replace f_x := Bs.drew f_x
                        replace Bw0 := Bw0.drew
                        go_wp2
                        refine ea_start [(0, some [33]), (1, some [33]), (2, some [33]), (3, some [33]), (4, some [33]), (5, some [33]), (6, some [33]), (7, some [33]), (8, some [9]), (10, some [33]), (11, some [33]), (12, some [33]), (13, some [33]), (14, some [33]), (15, some [16]), (18, some [33]), (19, some [33]), (20, some [33]), (21, some [33]), (22, some [33]), (23, some [33]), (25, some [33]), (26, some [33]), (27, some [33]), (28, some [33]), (29, some [33]), (30, some [33]), (9, none), (16, none), (17, some [33]), (24, some [33]), (31, some [33]), (32, some [33]), (33, none)] (by kernel_rfl) (by kernel_rfl) (by decide) (by kernel_rfl) (fun d _ _ _ _ h => by cases d <;> exact h) ?_
                        refine ea_rd 86 (.slice (some ⟨gt, 0, none⟩) 16 16) rfl rfl rfl rfl rfl (by unfold mkOp; go_simp; all_goals (with_reducible rfl)) ?_
                        simp only [Act.put, zA, zB, zC]
                        refine ea_rd 87 (.int .i64 (c : Int)) rfl rfl rfl rfl rfl (by unfold mkOp; go_simp; all_goals (with_reducible rfl)) ?_
                        simp only [Act.put, zA, zB, zC]
                        refine ea_rd 88 (.int .i64 (f4 : Int)) rfl rfl rfl rfl rfl (by unfold mkOp; go_simp; all_goals (with_reducible rfl)) ?_
                        simp only [Act.put, zA, zB, zC]
                        refine ea_rd 89 (.int .i64 (r : Int)) rfl rfl rfl rfl rfl (by unfold mkOp; go_simp; all_goals (with_reducible rfl)) ?_
                        simp only [Act.put, zA, zB, zC]
                        refine ea_rd 90 (.int .i64 (n : Int)) rfl rfl rfl rfl rfl (by unfold mkOp; go_simp; all_goals (with_reducible rfl)) ?_
                        simp only [Act.put, zA, zB, zC]
                        refine ea_rd 91 (.slice (some ⟨gx, ox, none⟩) 4 cx) rfl rfl rfl rfl rfl (by unfold mkOp; go_simp; all_goals (with_reducible rfl)) ?_
                        simp only [Act.put, zA, zB, zC]
                        refine ea_rd 92 (.int .i64 (r : Int)) rfl rfl rfl rfl rfl (by unfold mkOp; go_simp; all_goals (with_reducible rfl)) ?_
                        simp only [Act.put, zA, zB, zC]
                        refine ea_rd 93 (.pointer (some ⟨gx, ox + r, none⟩)) rfl rfl rfl rfl rfl (by unfold mkOp; go_simp; all_goals (with_reducible rfl)) ?_
                        simp only [Act.put, zA, zB, zC]
                        refine ea_rd 94 (.int .u8 (x0 : Int)) rfl rfl rfl rfl rfl (by have c9 := d0; unfold mkOp; go_simp; all_goals (with_reducible rfl)) ?_
                        simp only [Act.put, zA, zB, zC]
                        refine ea_rd 96 (.slice (some ⟨gx, ox, none⟩) 4 cx) rfl rfl rfl rfl rfl (by unfold mkOp; go_simp; all_goals (with_reducible rfl)) ?_
                        simp only [Act.put, zA, zB, zC]
                        refine ea_rd 97 (.int .i64 (r : Int)) rfl rfl rfl rfl rfl (by unfold mkOp; go_simp; all_goals (with_reducible rfl)) ?_
                        simp only [Act.put, zA, zB, zC]
                        refine ea_rd 98 (.int .i64 (r1 : Int)) rfl rfl rfl rfl rfl (by unfold mkOp; go_simp; all_goals (with_reducible rfl)) ?_
                        simp only [Act.put, zA, zB, zC]
                        refine ea_rd 99 (.int .i64 (q1 : Int)) rfl rfl rfl rfl rfl (by unfold mkOp; go_simp; all_goals (with_reducible rfl)) ?_
                        simp only [Act.put, zA, zB, zC]
                        refine ea_rd 100 (.pointer (some ⟨gx, ox + q1, none⟩)) rfl rfl rfl rfl rfl (by unfold mkOp; go_simp; all_goals (with_reducible rfl)) ?_
                        simp only [Act.put, zA, zB, zC]
                        refine ea_rd 101 (.int .u8 (x1 : Int)) rfl rfl rfl rfl rfl (by have c9 := d1; unfold mkOp; go_simp; all_goals (with_reducible rfl)) ?_
                        simp only [Act.put, zA, zB, zC]
                        refine ea_rd 104 (.slice (some ⟨gx, ox, none⟩) 4 cx) rfl rfl rfl rfl rfl (by unfold mkOp; go_simp; all_goals (with_reducible rfl)) ?_
                        simp only [Act.put, zA, zB, zC]
                        refine ea_rd 105 (.int .i64 (r : Int)) rfl rfl rfl rfl rfl (by unfold mkOp; go_simp; all_goals (with_reducible rfl)) ?_
                        simp only [Act.put, zA, zB, zC]
                        refine ea_rd 106 (.int .i64 (r2 : Int)) rfl rfl rfl rfl rfl (by unfold mkOp; go_simp; all_goals (with_reducible rfl)) ?_
                        simp only [Act.put, zA, zB, zC]
                        refine ea_rd 107 (.int .i64 (q2 : Int)) rfl rfl rfl rfl rfl (by unfold mkOp; go_simp; all_goals (with_reducible rfl)) ?_
                        simp only [Act.put, zA, zB, zC]
                        refine ea_rd 108 (.pointer (some ⟨gx, ox + q2, none⟩)) rfl rfl rfl rfl rfl (by unfold mkOp; go_simp; all_goals (with_reducible rfl)) ?_
                        simp only [Act.put, zA, zB, zC]
                        refine ea_rd 109 (.int .u8 (x2 : Int)) rfl rfl rfl rfl rfl (by have c9 := d2; unfold mkOp; go_simp; all_goals (with_reducible rfl)) ?_
                        simp only [Act.put, zA, zB, zC]
                        refine ea_rd 111 (.slice (some ⟨gx, ox, none⟩) 4 cx) rfl rfl rfl rfl rfl (by unfold mkOp; go_simp; all_goals (with_reducible rfl)) ?_
                        simp only [Act.put, zA, zB, zC]
                        refine ea_rd 112 (.int .i64 (r : Int)) rfl rfl rfl rfl rfl (by unfold mkOp; go_simp; all_goals (with_reducible rfl)) ?_
                        simp only [Act.put, zA, zB, zC]
                        refine ea_rd 113 (.int .i64 (r3 : Int)) rfl rfl rfl rfl rfl (by unfold mkOp; go_simp; all_goals (with_reducible rfl)) ?_
                        simp only [Act.put, zA, zB, zC]
                        refine ea_rd 114 (.int .i64 (q3 : Int)) rfl rfl rfl rfl rfl (by unfold mkOp; go_simp; all_goals (with_reducible rfl)) ?_
                        simp only [Act.put, zA, zB, zC]
                        refine ea_rd 115 (.pointer (some ⟨gx, ox + q3, none⟩)) rfl rfl rfl rfl rfl (by unfold mkOp; go_simp; all_goals (with_reducible rfl)) ?_
                        simp only [Act.put, zA, zB, zC]
                        refine ea_rd 116 (.int .u8 (x3 : Int)) rfl rfl rfl rfl rfl (by have c9 := d3; unfold mkOp; go_simp; all_goals (with_reducible rfl)) ?_
                        simp only [Act.put, zA, zB, zC]
                        refine ea_call 95 (gmul_any x0 2 _ HXB0.out (by decide)) rfl rfl rfl rfl Try.func46 (by kernel_rfl) (by kernel_rfl) (by go_simp) ?_
                        simp only [Act.put, zA, zB, zC]
                        refine ea_call 102 (gmul_any x1 3 _ HXB1.out (by decide)) rfl rfl rfl rfl Try.func46 (by kernel_rfl) (by kernel_rfl) (by go_simp) ?_
                        simp only [Act.put, zA, zB, zC]
                        refine ea_rd 103 (.int .u8 (y1 : Int)) rfl rfl rfl rfl rfl (by unfold mkOp; go_simp; all_goals (with_reducible rfl)) ?_
                        simp only [Act.put, zA, zB, zC]
                        refine ea_rd 110 (.int .u8 (y2 : Int)) rfl rfl rfl rfl rfl (by unfold mkOp; go_simp; all_goals (with_reducible rfl)) ?_
                        simp only [Act.put, zA, zB, zC]
                        refine ea_rd 117 (.int .u8 (z : Int)) rfl rfl rfl rfl rfl (by unfold mkOp; go_simp; all_goals (with_reducible rfl)) ?_
                        simp only [Act.put, zA, zB, zC]
                        refine ea_rd 118 (.pointer (some ⟨gt, n, none⟩)) rfl rfl rfl rfl rfl (by unfold mkOp; go_simp; all_goals (with_reducible rfl)) ?_
                        simp only [Act.put, zA, zB, zC]
                        refine ea_store (upN G (shN A) (n + 1)) rfl rfl rfl rfl rfl rfl r_t (Nat.le_refl _) HNL.out rfl rfl (by kernel_rfl) (upN_step _ _ n z HZ.out) ?_
                        intro w7 q7 g7
                        refine le_end ?_
                        replace r_t4 := gb_rowIs r_t4 g7 HN4t.out
                        replace r_s := gb_rowIs r_s g7 HNst.out
                        replace f_x := gb_bs f_x g7 HAX.out
                        have Bw1 := zbg HGS Bw0 g7 HLT.out
                        clear Bw0 g7 r_t e1 e2 e3 hw1 hw2 hnI d0 d1 d2 d3
                        go_wp2
                        go_roundw
                        case rel => exact ⟨r + 1, HR.out, by rw [HR1.out], r_t4, r_s, by rw [← Nat.add_assoc, HNE.out]; exact q7, f_x, Bw1⟩
                        case measure => (have := HR.out; have := HR1.out; simp [intOf]; try omega)
                      · obtain rfl : r = 4 := by omega
                        have hc4 := HC.out
                        obtain ⟨c1, hc1⟩ := nat_var (c + 1)
                        have hwc : IntKind.i64.wrap ((c : Int) + 1) = (c1 : Int) := by rw [IntWalk.i64_in _ (by omega)]; omega
                        have HC1 := Lib.hid hc1
                        clear hr hlr hc4 hc1
                        go_wp2
                        go_roundw
                        case rel => exact ⟨c + 1, HC.out, by rw [HC1.out], r_t4, r_s, r_t, Bw0⟩
                        case measure => (have := HC.out; have := HC1.out; simp [intOf]; try omega)
                  · obtain rfl : c = 4 := by omega
                    replace r_t := sF_all r_t
                    clear hc hlc
                    rw [show ((4 : Nat) : Int) = 4 from rfl]
                    go_wp2
                    go_loopw [16] (fun iv wr => ∃ j : Nat, j ≤ 16 ∧ iv = .int .i64 (j : Int) ∧ wr.rowIs b_t4 51 256 (cF .u8 boxN) ∧ wr.rowIs gs 5 cs (sF (upN (arkN G (nB l0) k1) A j) Fs) ∧ wr.rowIs gt 5 16 (sF G Ft) ∧ Below w.heap.size w wr) (fun iv _ => 16 - (intOf iv).toNat)
                    case atStart => exact ⟨0, by decide, rfl, r_t4, by rw [upN_zero]; exact r_s, r_t, Bw0⟩
                    case round =>
                      clear r_t4 r_s r_t Bw0
                      obtain ⟨j, hj, rfl, r_t4, r_s, r_t, Bw0⟩ := hrel
                      by_cases hlj : j < 16
                      · have hjI : 0 ≤ (j : Int) ∧ (j : Int) < 16 := by omega
                        have HJ := Lib.hid hlj
                        have hK1 := HK1.out
                        have hK := HK.out
                        obtain ⟨m, hm⟩ := nat_var (16 * k1)
                        obtain ⟨q, hq⟩ := nat_var (m + j)
                        have hw1 : IntKind.i64.wrap (16 * (k1 : Int)) = (m : Int) := by rw [IntWalk.i64_in _ (by omega)]; omega
                        have hw2 : IntKind.i64.wrap ((m : Int) + (j : Int)) = (q : Int) := by rw [IntWalk.i64_in _ (by omega)]; omega
                        have hql : q < 240 := by omega
                        have hqI : 0 ≤ (q : Int) ∧ (q : Int) < 240 := by omega
                        obtain ⟨x, hx⟩ := nat_var (G j)
                        obtain ⟨y, hy⟩ := nat_var (nB l0 q)
                        obtain ⟨z, hz⟩ := nat_var (x ^^^ y)
                        have e1 : bits .xor .u8 (x : Int) (y : Int) = (z : Int) := by rw [hz]; exact bits_xorN x y (by rw [hx]; exact HGL.out j) (by rw [hy]; exact nB_lt _ _)
                        have HZ : Hid (arkN G (nB l0) k1 j = z) := Lib.hid (by unfold arkN; rw [hz, hx, hy, hq, hm])
                        have c1 := sF_cell r_t (Nat.le_refl _) j hlj (x := x) hx.symm
                        have c2 := bs_cell (HF.out.below Bw0 (Nat.le_refl _)) q (by rw [HL0.out]; exact hql)
                        rw [← getD_at l0 q (by rw [HL0.out]; exact hql), show (l0.getD q 0).toNat = y from hy.symm] at c2
                        have c3 := r_s.cell (i := j) (by have := HCS.out.1; omega)
                        have hfr := r_s.frozen j
                        clear hx hy hz hj hlj hm hq hql hK hK1
                        go_wp2
                        go_region
                        go_wp2
                        go_roundw
                        case rel => exact ⟨j + 1, HJ.out, by have := HJ.out; go_num, World.rowIs.setOther r_t4.drew HN4.out _, sF_set r_s.drew j z HJ.out (upN_step _ _ j z HZ.out), World.rowIs.setOther r_t.drew (Ne.symm HNst.out) _, (Bw0.drew).setCell HGB.out _⟩
                        case measure => (have := HJ.out; simp [intOf]; try omega)
                      · obtain rfl : j = 16 := by omega
                        replace r_s := sF_all r_s
                        have hst : arkN G (nB l0) k1 = stN (nB l2) (nB l0) (k + 1) := by
                          show _ = rdN (stN (nB l2) (nB l0) k) (nB l0) (k + 1)
                          unfold rdN
                          rw [← HA.out, ← HK1.out, ← HGE.out]
                        rw [hst] at r_s
                        have hK := HK.out
                        have hK1 := HK1.out
                        obtain ⟨k2, hk2⟩ := nat_var (k1 + 1)
                        have hwk : IntKind.i64.wrap ((k1 : Int) + 1) = (k2 : Int) := by rw [IntWalk.i64_in _ (by omega)]; omega
                        have HK2 : Hid (k2 = k + 1 + 1) := Lib.hid (by omega)
                        clear hj hlj hst hK hK1 hk2
                        go_wp2
                        go_roundw
                        case rel => exact ⟨k + 1, HK.out, by rw [HK2.out], r_t4, r_s, Bw0⟩
                        case measure => (have := HK.out; have := HK1.out; have := HK2.out; simp [intOf]; try omega)
              · have h14I : ((k1 : Int) < 14) = False := eq_false (by omega)
                obtain ⟨G, hG⟩ : ∃ G, G = shN A := ⟨_, rfl⟩
                have HGE : Hid (G = if k1 < 14 then mixN (shN A) else shN A) := Lib.hid (by rw [if_neg h14]; exact hG)
                have HGL : Hid (∀ j, G j < 256) := Lib.hid (by rw [hG]; exact shN_lt A)
                rw [← hG] at r_t
                clear h14 hG
                go_wp2
                clear h14I
                go_loopw [16] (fun iv wr => ∃ j : Nat, j ≤ 16 ∧ iv = .int .i64 (j : Int) ∧ wr.rowIs b_t4 51 256 (cF .u8 boxN) ∧ wr.rowIs gs 5 cs (sF (upN (arkN G (nB l0) k1) A j) Fs) ∧ wr.rowIs gt 5 16 (sF G Ft) ∧ Below w.heap.size w wr) (fun iv _ => 16 - (intOf iv).toNat)
                case atStart => exact ⟨0, by decide, rfl, r_t4, by rw [upN_zero]; exact r_s, r_t, Bw0⟩
                case round =>
                  clear r_t4 r_s r_t Bw0
                  obtain ⟨j, hj, rfl, r_t4, r_s, r_t, Bw0⟩ := hrel
                  by_cases hlj : j < 16
                  · have hjI : 0 ≤ (j : Int) ∧ (j : Int) < 16 := by omega
                    have HJ := Lib.hid hlj
                    have hK1 := HK1.out
                    have hK := HK.out
                    obtain ⟨m, hm⟩ := nat_var (16 * k1)
                    obtain ⟨q, hq⟩ := nat_var (m + j)
                    have hw1 : IntKind.i64.wrap (16 * (k1 : Int)) = (m : Int) := by rw [IntWalk.i64_in _ (by omega)]; omega
                    have hw2 : IntKind.i64.wrap ((m : Int) + (j : Int)) = (q : Int) := by rw [IntWalk.i64_in _ (by omega)]; omega
                    have hql : q < 240 := by omega
                    have hqI : 0 ≤ (q : Int) ∧ (q : Int) < 240 := by omega
                    obtain ⟨x, hx⟩ := nat_var (G j)
                    obtain ⟨y, hy⟩ := nat_var (nB l0 q)
                    obtain ⟨z, hz⟩ := nat_var (x ^^^ y)
                    have e1 : bits .xor .u8 (x : Int) (y : Int) = (z : Int) := by rw [hz]; exact bits_xorN x y (by rw [hx]; exact HGL.out j) (by rw [hy]; exact nB_lt _ _)
                    have HZ : Hid (arkN G (nB l0) k1 j = z) := Lib.hid (by unfold arkN; rw [hz, hx, hy, hq, hm])
                    have c1 := sF_cell r_t (Nat.le_refl _) j hlj (x := x) hx.symm
                    have c2 := bs_cell (HF.out.below Bw0 (Nat.le_refl _)) q (by rw [HL0.out]; exact hql)
                    rw [← getD_at l0 q (by rw [HL0.out]; exact hql), show (l0.getD q 0).toNat = y from hy.symm] at c2
                    have c3 := r_s.cell (i := j) (by have := HCS.out.1; omega)
                    have hfr := r_s.frozen j
                    clear hx hy hz hj hlj hm hq hql hK hK1
                    go_wp2
                    go_region
                    go_wp2
                    go_roundw
                    case rel => exact ⟨j + 1, HJ.out, by have := HJ.out; go_num, World.rowIs.setOther r_t4.drew HN4.out _, sF_set r_s.drew j z HJ.out (upN_step _ _ j z HZ.out), World.rowIs.setOther r_t.drew (Ne.symm HNst.out) _, (Bw0.drew).setCell HGB.out _⟩
                    case measure => (have := HJ.out; simp [intOf]; try omega)
                  · obtain rfl : j = 16 := by omega
                    replace r_s := sF_all r_s
                    have hst : arkN G (nB l0) k1 = stN (nB l2) (nB l0) (k + 1) := by
                      show _ = rdN (stN (nB l2) (nB l0) k) (nB l0) (k + 1)
                      unfold rdN
                      rw [← HA.out, ← HK1.out, ← HGE.out]
                    rw [hst] at r_s
                    have hK := HK.out
                    have hK1 := HK1.out
                    obtain ⟨k2, hk2⟩ := nat_var (k1 + 1)
                    have hwk : IntKind.i64.wrap ((k1 : Int) + 1) = (k2 : Int) := by rw [IntWalk.i64_in _ (by omega)]; omega
                    have HK2 : Hid (k2 = k + 1 + 1) := Lib.hid (by omega)
                    clear hj hlj hst hK hK1 hk2
                    go_wp2
                    go_roundw
                    case rel => exact ⟨k + 1, HK.out, by rw [HK2.out], r_t4, r_s, Bw0⟩
                    case measure => (have := HK.out; have := HK1.out; have := HK2.out; simp [intOf]; try omega)
        · obtain rfl : k = 14 := by omega
          have hkI : ¬ (k1 : Int) ≤ 14 := by omega
          rw [← HRES.out] at r_s
          clear hk hlt hk1
          go_wp2
          go_ret
          refine ⟨_, rfl, ?_, Bw0⟩
          exact Bs16 r_s HCS.out.1 HCS.out.2 (by rw [HRES.out]; exact stN_lt _ _ (nB_lt _) (nB_lt _) 14)
end Go.Proofs.Ytclbfbkbmiijnaa

/- AES of the document: Block. -/
namespace Go.Proofs.Ytclbfbkbmiijnaa
open Go.RowKit Go.Deep
set_option linter.unusedSimpArgs false
set_option linter.unusedVariables false

theorem schL_len (l : List UInt8) (h : l.length = 32) : (schL l).length = 240 := schS_len l h 52
/-- AES of a block. -/
def aesL (key b : List UInt8) : List UInt8 := blkL (stN (nB b) (nB (schL key)) 14)
theorem aesL_len (key b : List UInt8) : (aesL key b).length = 16 := by simp [aesL, blkL]
theorem blockW_to (v0 : Value) (l0 : List UInt8) (v2 : Value) (k l2 : List UInt8) (w : World) (hk : l0 = schL k) (hl : k.length = 32) (h0 : Bs w v0 l0) (h2 : Bs w v2 l2) (hl2 : l2.length = 16) : Calls Try.prog 33 #[v0, .agg (arrOf 256 (cF .u8 boxN)), v2] w fun e w' => ∃ v, e = .returned v ∧ Bs w' v (aesL k l2) ∧ Below w.heap.size w w' := by
  have h := refBlockW_any v0 l0 v2 l2 w h0 (by rw [hk]; exact schL_len k hl) h2 hl2
  rw [hk] at h
  unfold aesL
  exact h
end Go.Proofs.Ytclbfbkbmiijnaa

/- Eight words: sha2's all and plus; the first states and the rounds' numbers, the program's and the document's. -/
set_option linter.unusedSimpArgs false
set_option linter.unusedVariables false
namespace Go.Proofs.Ytclbfbkbmiijnaa
open Go.RowKit Go.Deep

def w32 (s : Nat → BitVec 32) : Nat → Value := fun i => .int .u32 ((s i).toNat : Int)
theorem zero8_32 : (Try.prog.info? 75).map (fun i => i.zero) = some (some (.agg (arrOf 8 fun _ => .int .u32 0))) := by kernel_rfl
theorem arr8_32 : IsArr Try.prog 75 8 := ⟨by kernel_rfl, by kernel_rfl⟩

set_option maxHeartbeats 400000 in
theorem all32_any (s : Nat → BitVec 32) (w : World) :
    Calls Try.prog 65 #[.agg (arrOf 8 (w32 s))] w fun e w' => e = .returned (.tuple #[w32 s 0, w32 s 1, w32 s 2, w32 s 3, w32 s 4, w32 s 5, w32 s 6, w32 s 7]) ∧ Below w.heap.size w w' := by
  have hrow := World.rowIs_alloc w (arrOf 8 (w32 s)) 75 (w32 s) (fun i hi => arrOf_get 8 _ i (by rw [arrOf_size] at hi; exact hi))
  rw [arrOf_size] at hrow
  have h0 := hrow.cell (i := 0) (by omega)
  have h1 := hrow.cell (i := 1) (by omega)
  have h2 := hrow.cell (i := 2) (by omega)
  have h3 := hrow.cell (i := 3) (by omega)
  have h4 := hrow.cell (i := 4) (by omega)
  have h5 := hrow.cell (i := 5) (by omega)
  have h6 := hrow.cell (i := 6) (by omega)
  have h7 := hrow.cell (i := 7) (by omega)
  have hb : Below w.heap.size w (w.alloc (.cells (arrOf 8 (w32 s)) 75)) := (Below.refl _ _).alloc (Nat.le_refl _) _
  clear hrow
  go_enter Try.func65, Try.ntmps65
  go_wp2
  go_quiet (fail)
  go_wp2
  refine bodyPost_ret (v := .tuple #[w32 s 0, w32 s 1, w32 s 2, w32 s 3, w32 s 4, w32 s 5, w32 s 6, w32 s 7]) (by simp [results, Try.results65, go_sem]) rfl ⟨rfl, below_drewN hb _⟩

set_option maxHeartbeats 400000 in
theorem plus32_any (s t : Nat → BitVec 32) (w : World) :
    Calls Try.prog 70 #[.agg (arrOf 8 (w32 s)), .agg (arrOf 8 (w32 t))] w fun e w' => e = .returned (.agg (arrOf 8 (w32 fun i => s i + t i))) ∧ Below w.heap.size w w' := by
  go_enter Try.func70, Try.ntmps70
  have hA := ((rowIs_arr w 8 (w32 s) 75).alloc (.cells (arrOf 8 (w32 t)) 75)).alloc (.cells (arrOf 8 fun _ => .int .u32 0) 75)
  have hB := (rowIs_arr (w.alloc (.cells (arrOf 8 (w32 s)) 75)) 8 (w32 t) 75).alloc (.cells (arrOf 8 fun _ => .int .u32 0) 75)
  have hC := rowIs_arr ((w.alloc (.cells (arrOf 8 (w32 s)) 75)).alloc (.cells (arrOf 8 (w32 t)) 75)) 8 (fun _ => .int .u32 0) 75
  have hb : Below w.heap.size w (((w.alloc (.cells (arrOf 8 (w32 s)) 75)).alloc (.cells (arrOf 8 (w32 t)) 75)).alloc (.cells (arrOf 8 fun _ => .int .u32 0) 75)) :=
    (((Below.refl _ _).alloc (Nat.le_refl _) _).alloc (by simp only [World.size_alloc]; omega) _).alloc (by simp only [World.size_alloc]; omega) _
  simp only [World.size_alloc] at hA hB hC
  go_wp2_with (first
    | refine wpList_alloc_arr rfl 75 rfl (arrOf 8 fun _ => .int .u32 0) zero8_32 ?_
    | refine wpList_load_arr rfl 75 (.tmp 3) rfl 8 arr8_32 hB rfl (by omega) ?_)
  go_loopw [8] (fun i wr => ∃ j : Nat, j ≤ 8 ∧ i = .int .i64 j ∧ wr.rowIs w.heap.size 75 8 (fun i => .int .u32 ((if i < j then s i + t i else s i).toNat : Int)) ∧
    wr.rowIs (w.heap.size + 1 + 1) 75 8 (fun _ => .int .u32 0) ∧ Below w.heap.size w wr) (fun i _ => 8 - (intOf i).toNat)
  case atStart => exact ⟨0, Nat.zero_le _, rfl, hA.congr fun i _ => rfl, hC, hb⟩
  case round =>
    obtain ⟨j, hj, rfl, hrow, hres, hbel⟩ := hrel
    clear hA hB hC hb
    by_cases hlt : j < 8
    · have hcell := hrow.cell hlt
      rw [if_neg (by omega)] at hcell
      have hfr := hrow.frozen j
      have hw : w32 t j = .int .u32 ((t j).toNat : Int) := rfl
      go_wp2_with (refine wpList_index_arr rfl 75 74 (.tmp 7) (.tmp 8) rfl 8 Try.underlying75 _ Try.underlying74 rfl (by kernel_rfl) rfl rfl hlt ?_)
      go_roundw
      case rel =>
        refine ⟨j + 1, by omega, by go_num, (hrow.set j _).congr fun i hi => ?_, hres.setOther (by show w.heap.size + 1 + 1 ≠ w.heap.size; omega) _, hbel.setCell (Nat.le_refl _) _⟩
        show (if i = j then _ else _) = _
        by_cases e : i = j
        · subst e
          rw [if_pos rfl, if_pos (by omega)]
          exact congrArg (Value.int .u32) (add32 _ _)
        · rw [if_neg e]
          by_cases h2 : i < j
          · rw [if_pos h2, if_pos (by omega)]
          · rw [if_neg h2, if_neg (by omega)]
      case measure => simp [intOf]; omega
    · obtain rfl : j = 8 := by omega
      have hrow8 : wr.rowIs w.heap.size 75 8 (w32 fun i => s i + t i) := hrow.congr fun i hi => by rw [if_pos hi]; rfl
      go_wp2_with (first
        | refine wpList_load_arr rfl 75 (.tmp 2) rfl 8 arr8_32 hrow8 rfl (by omega) ?_
        | (refine wpList_store_arr rfl 75 (.tmp 4) (.tmp 19) rfl 8 arr8_32 hres rfl rfl (by omega) (fun _ _ => rfl) ?_; intro w2 hr2 hg2 hs2))
      refine ret_cell_arr rfl arr8_32 hr2 rfl (by omega) rfl ⟨?_, hbel.grown hg2 hbel.size (by intro k hk; cases hk; omega)⟩
      congr 2

def w64 (s : Nat → BitVec 64) : Nat → Value := fun i => .int .u64 ((s i).toNat : Int)
theorem zero8_64 : (Try.prog.info? 72).map (fun i => i.zero) = some (some (.agg (arrOf 8 fun _ => .int .u64 0))) := by kernel_rfl
theorem arr8_64 : IsArr Try.prog 72 8 := ⟨by kernel_rfl, by kernel_rfl⟩

end Go.Proofs.Ytclbfbkbmiijnaa

/- The numbers of the standard: the rounds' and the first states; the program's tables of them, and the document's. -/
set_option linter.unusedSimpArgs false
set_option linter.unusedVariables false
namespace Go.Proofs.Ytclbfbkbmiijnaa
open Go.RowKit Go.Deep

def kNums : List Nat := [0x428a2f98d728ae22, 0x7137449123ef65cd, 0xb5c0fbcfec4d3b2f, 0xe9b5dba58189dbbc, 0x3956c25bf348b538, 0x59f111f1b605d019, 0x923f82a4af194f9b, 0xab1c5ed5da6d8118,
  0xd807aa98a3030242, 0x12835b0145706fbe, 0x243185be4ee4b28c, 0x550c7dc3d5ffb4e2, 0x72be5d74f27b896f, 0x80deb1fe3b1696b1, 0x9bdc06a725c71235, 0xc19bf174cf692694,
  0xe49b69c19ef14ad2, 0xefbe4786384f25e3, 0x0fc19dc68b8cd5b5, 0x240ca1cc77ac9c65, 0x2de92c6f592b0275, 0x4a7484aa6ea6e483, 0x5cb0a9dcbd41fbd4, 0x76f988da831153b5,
  0x983e5152ee66dfab, 0xa831c66d2db43210, 0xb00327c898fb213f, 0xbf597fc7beef0ee4, 0xc6e00bf33da88fc2, 0xd5a79147930aa725, 0x06ca6351e003826f, 0x142929670a0e6e70,
  0x27b70a8546d22ffc, 0x2e1b21385c26c926, 0x4d2c6dfc5ac42aed, 0x53380d139d95b3df, 0x650a73548baf63de, 0x766a0abb3c77b2a8, 0x81c2c92e47edaee6, 0x92722c851482353b,
  0xa2bfe8a14cf10364, 0xa81a664bbc423001, 0xc24b8b70d0f89791, 0xc76c51a30654be30, 0xd192e819d6ef5218, 0xd69906245565a910, 0xf40e35855771202a, 0x106aa07032bbd1b8,
  0x19a4c116b8d2d0c8, 0x1e376c085141ab53, 0x2748774cdf8eeb99, 0x34b0bcb5e19b48a8, 0x391c0cb3c5c95a63, 0x4ed8aa4ae3418acb, 0x5b9cca4f7763e373, 0x682e6ff3d6b2b8a3,
  0x748f82ee5defb2fc, 0x78a5636f43172f60, 0x84c87814a1f0ab72, 0x8cc702081a6439ec, 0x90befffa23631e28, 0xa4506cebde82bde9, 0xbef9a3f7b2c67915, 0xc67178f2e372532b,
  0xca273eceea26619c, 0xd186b8c721c0c207, 0xeada7dd6cde0eb1e, 0xf57d4f7fee6ed178, 0x06f067aa72176fba, 0x0a637dc5a2c898a6, 0x113f9804bef90dae, 0x1b710b35131c471b,
  0x28db77f523047d84, 0x32caab7b40c72493, 0x3c9ebe0a15c9bebc, 0x431d67c49c100d4c, 0x4cc5d4becb3e42b6, 0x597f299cfc657e2a, 0x5fcb6fab3ad6faec, 0x6c44198c4a475817]
def iNums : List Nat := [0x6a09e667f3bcc908, 0xbb67ae8584caa73b, 0x3c6ef372fe94f82b, 0xa54ff53a5f1d36f1, 0x510e527fade682d1, 0x9b05688c2b3e6c1f, 0x1f83d9abfb41bd6b, 0x5be0cd19137e2179]
def K64 (i : Nat) : BitVec 64 := BitVec.ofNat 64 (kNums.getD i 0)
def K32 (i : Nat) : BitVec 32 := BitVec.ofNat 32 ((K64 i).toNat / 2 ^ 32)
def I64 (i : Nat) : BitVec 64 := BitVec.ofNat 64 (iNums.getD i 0)
def I32 (i : Nat) : BitVec 32 := BitVec.ofNat 32 ((I64 i).toNat / 2 ^ 32)
def k256 : Kind 32 := { big0 := fun x => tri x 2 13 22, big1 := fun x => tri x 6 11 25, low0 := fun x => sig x 7 18 3, low1 := fun x => sig x 17 19 10, num := K32, rounds := 64, first := S8.of I32, bytes := 4 }
theorem half_lt (x : BitVec 64) : x.toNat / 2 ^ 32 < 4294967296 := by have := u64_lt x; omega
theorem K32_val (i : Nat) : ((K32 i).toNat : Int) = ((K64 i).toNat : Int) / 2 ^ 32 := by
  unfold K32; rw [ofNat32 _ (half_lt _)]; simp
theorem I32_val (i : Nat) : ((I32 i).toNat : Int) = ((I64 i).toNat : Int) / 2 ^ 32 := by
  unfold I32; rw [ofNat32 _ (half_lt _)]; simp
theorem zero80 : (Try.prog.info? 70).map (fun i => i.zero) = some (some (.agg (arrOf 80 fun _ => .int .u64 0))) := by kernel_rfl
theorem arr80 : IsArr Try.prog 70 80 := ⟨by kernel_rfl, by kernel_rfl⟩

set_option maxHeartbeats 400000 in
theorem roots_any (w : World) : Calls Try.prog 64 #[] w fun e w' => e = .returned (.agg (arrOf 80 (w64 K64))) ∧ Below w.heap.size w w' := by
  go_enter Try.func64, Try.ntmps64
  have hres := rowIs_arr w 80 (fun _ => .int .u64 0) 70
  go_wp2_with (first
    | refine wpList_alloc_arr rfl 70 rfl (arrOf 80 fun _ => .int .u64 0) zero80 ?_
    | refine wpList_build_arr rfl 70 _ rfl (arrOf 80 (w64 K64)) (by kernel_rfl) ?_
    | (refine wpList_store_arr rfl 70 (.tmp 0) (.tmp 1) rfl 80 arr80 hres rfl rfl (by omega) (fun _ _ => rfl) ?_; intro w2 hr2 hg2 hs2))
  refine ret_cell_arr rfl arr80 hr2 rfl (by omega) rfl ⟨?_, ((Below.refl _ _).alloc (Nat.le_refl _) _).grown hg2 (by simp) (by intro k hk; cases hk; omega)⟩
  refine congrArg (fun c => Ending.returned (Value.agg c)) (arrOf_congr fun i hi => ?_)
  unfold putN
  rw [if_pos (by omega)]
  simp only [Nat.zero_add, Nat.sub_zero]

set_option maxHeartbeats 400000 in
theorem refRounds_any (w : World) : Calls Try.prog 47 #[] w fun e w' => e = .returned (.agg (arrOf 80 (w64 K64))) ∧ Below w.heap.size w w' := by
  go_enter Try.func47, Try.ntmps47
  have hres := rowIs_arr w 80 (fun _ => .int .u64 0) 70
  go_wp2_with (first
    | refine wpList_alloc_arr rfl 70 rfl (arrOf 80 fun _ => .int .u64 0) zero80 ?_
    | refine wpList_build_arr rfl 70 _ rfl (arrOf 80 (w64 K64)) (by kernel_rfl) ?_
    | (refine wpList_store_arr rfl 70 (.tmp 0) (.tmp 1) rfl 80 arr80 hres rfl rfl (by omega) (fun _ _ => rfl) ?_; intro w2 hr2 hg2 hs2))
  refine ret_cell_arr rfl arr80 hr2 rfl (by omega) rfl ⟨?_, ((Below.refl _ _).alloc (Nat.le_refl _) _).grown hg2 (by simp) (by intro k hk; cases hk; omega)⟩
  refine congrArg (fun c => Ending.returned (Value.agg c)) (arrOf_congr fun i hi => ?_)
  unfold putN
  rw [if_pos (by omega)]
  simp only [Nat.zero_add, Nat.sub_zero]

set_option maxHeartbeats 400000 in
theorem start512_any (w : World) : Calls Try.prog 63 #[] w fun e w' => e = .returned (.agg (arrOf 8 (w64 I64))) ∧ Below w.heap.size w w' := by
  go_enter Try.func63, Try.ntmps63
  have hres := rowIs_arr w 8 (fun _ => .int .u64 0) 72
  go_wp2_with (first
    | refine wpList_alloc_arr rfl 72 rfl (arrOf 8 fun _ => .int .u64 0) zero8_64 ?_
    | refine wpList_build_arr rfl 72 _ rfl (arrOf 8 (w64 I64)) (by kernel_rfl) ?_
    | (refine wpList_store_arr rfl 72 (.tmp 0) (.tmp 1) rfl 8 arr8_64 hres rfl rfl (by omega) (fun _ _ => rfl) ?_; intro w2 hr2 hg2 hs2))
  refine ret_cell_arr rfl arr8_64 hr2 rfl (by omega) rfl ⟨?_, ((Below.refl _ _).alloc (Nat.le_refl _) _).grown hg2 (by simp) (by intro k hk; cases hk; omega)⟩
  refine congrArg (fun c => Ending.returned (Value.agg c)) (arrOf_congr fun i hi => ?_)
  unfold putN
  rw [if_pos (by omega)]
  simp only [Nat.zero_add, Nat.sub_zero]

set_option maxHeartbeats 400000 in
theorem refStart_any (w : World) : Calls Try.prog 48 #[] w fun e w' => e = .returned (.agg (arrOf 8 (w64 I64))) ∧ Below w.heap.size w w' := by
  go_enter Try.func48, Try.ntmps48
  have hres := rowIs_arr w 8 (fun _ => .int .u64 0) 72
  go_wp2_with (first
    | refine wpList_alloc_arr rfl 72 rfl (arrOf 8 fun _ => .int .u64 0) zero8_64 ?_
    | refine wpList_build_arr rfl 72 _ rfl (arrOf 8 (w64 I64)) (by kernel_rfl) ?_
    | (refine wpList_store_arr rfl 72 (.tmp 0) (.tmp 1) rfl 8 arr8_64 hres rfl rfl (by omega) (fun _ _ => rfl) ?_; intro w2 hr2 hg2 hs2))
  refine ret_cell_arr rfl arr8_64 hr2 rfl (by omega) rfl ⟨?_, ((Below.refl _ _).alloc (Nat.le_refl _) _).grown hg2 (by simp) (by intro k hk; cases hk; omega)⟩
  refine congrArg (fun c => Ending.returned (Value.agg c)) (arrOf_congr fun i hi => ?_)
  unfold putN
  rw [if_pos (by omega)]
  simp only [Nat.zero_add, Nat.sub_zero]

set_option maxHeartbeats 800000 in
theorem start256_any (w : World) : Calls Try.prog 53 #[] w fun e w' => e = .returned (.agg (arrOf 8 (w32 I32))) ∧ Below w.heap.size w w' := by
  go_enter Try.func53, Try.ntmps53
  have hA := (rowIs_arr w 8 (fun _ => .int .u32 0) 75).alloc (.cells (arrOf 8 fun _ => .int .u32 0) 75)
  have hB := rowIs_arr (w.alloc (.cells (arrOf 8 fun _ => .int .u32 0) 75)) 8 (fun _ => .int .u32 0) 75
  have hb : Below w.heap.size w ((w.alloc (.cells (arrOf 8 fun _ => .int .u32 0) 75)).alloc (.cells (arrOf 8 fun _ => .int .u32 0) 75)) :=
    ((Below.refl _ _).alloc (Nat.le_refl _) _).alloc (by simp only [World.size_alloc]; omega) _
  simp only [World.size_alloc] at hA hB
  go_wp2_with (first
    | refine wpList_alloc_arr rfl 75 rfl (arrOf 8 fun _ => .int .u32 0) zero8_32 ?_
    | (go_at_call 63; refine (start512_any _).mono ?_; rintro e w1 ⟨rfl, hb1⟩))
  have hA1 := hA.of_block (hb1.block _ hA.lt)
  have hB1 := hB.of_block (hb1.block _ hB.lt)
  have hb2 := hb.trans (hb1.mono (by simp only [World.size_alloc]; omega))
  clear hA hB hb hb1
  go_wp2
  go_loopw [5] (fun i wr => ∃ j : Nat, j ≤ 8 ∧ i = .int .i64 j ∧ wr.rowIs (w.heap.size + 1) 75 8 (fun i => .int .u32 (if i < j then ((I32 i).toNat : Int) else 0)) ∧
    wr.rowIs w.heap.size 75 8 (fun _ => .int .u32 0) ∧ Below w.heap.size w wr) (fun i _ => 8 - (intOf i).toNat)
  case atStart => exact ⟨0, Nat.zero_le _, rfl, hB1.congr fun i _ => rfl, hA1, hb2⟩
  case round =>
    obtain ⟨j, hj, rfl, hrow, hres, hbel⟩ := hrel
    clear hA1 hB1 hb2
    by_cases hlt : j < 8
    · have hcell := hrow.cell hlt
      have hfr := hrow.frozen j
      have hw : w64 I64 j = .int .u64 ((I64 j).toNat : Int) := rfl
      have hs : IntKind.u64.signed = false := rfl
      go_wp2_with (refine wpList_index_arr rfl 72 42 (.tmp 4) (.tmp 5) rfl 8 Try.underlying72 _ Try.underlying42 rfl (by kernel_rfl) rfl rfl hlt ?_)
      go_roundw
      case rel =>
        refine ⟨j + 1, by omega, by go_num, (hrow.set j _).congr fun i hi => ?_, hres.setOther (by show w.heap.size ≠ w.heap.size + 1; omega) _, hbel.setCell (by show w.heap.size ≤ w.heap.size + 1; omega) _⟩
        show (if i = j then _ else _) = _
        by_cases e : i = j
        · subst e
          rw [if_pos rfl, if_pos (by omega), I32_val]
          rfl
        · rw [if_neg e]
          by_cases h2 : i < j
          · rw [if_pos h2, if_pos (by omega)]
          · rw [if_neg h2, if_neg (by omega)]
      case measure => simp [intOf]; omega
    · obtain rfl : j = 8 := by omega
      have hrow8 : wr.rowIs (w.heap.size + 1) 75 8 (w32 I32) := hrow.congr fun i hi => by rw [if_pos hi]; rfl
      go_wp2_with (first
        | refine wpList_load_arr rfl 75 (.tmp 1) rfl 8 arr8_32 hrow8 rfl (by omega) ?_
        | (refine wpList_store_arr rfl 75 (.tmp 0) (.tmp 15) rfl 8 arr8_32 hres rfl rfl (by omega) (fun _ _ => rfl) ?_; intro w2 hr2 hg2 hs2))
      refine ret_cell_arr rfl arr8_32 hr2 rfl (by omega) rfl ⟨?_, hbel.grown hg2 hbel.size (by intro k hk; cases hk; omega)⟩
      refine congrArg (fun c => Ending.returned (Value.agg c)) (arrOf_congr fun i hi => ?_)
      unfold putN
      rw [if_pos (by omega)]
      simp only [Nat.zero_add, Nat.sub_zero]
end Go.Proofs.Ytclbfbkbmiijnaa

/- A block's words: sha2's spread256, spread512. -/
set_option linter.unusedSimpArgs false
set_option linter.unusedVariables false
namespace Go.Proofs.Ytclbfbkbmiijnaa
open Go.RowKit Go.Deep

def u8f (blk : List UInt8) : Nat → Value := fun i => .int .u8 ((blk.getD i 0).toNat : Int)
/-- A part of a row, read as bytes. -/
theorem Bs.of_part {w : World} {b m off n cap : Nat} {t : TypeId} {f : Nat → Value} (h : w.rowIs b t m f) (l : List UInt8) (hn : l.length = n) (hm : off + n ≤ m) (hc : n ≤ cap) (hcm : cap ≤ maxLen)
    (hf : ∀ i (hi : i < l.length), f (off + i) = .int .u8 ((l[i]).toNat : Int)) : Bs w (.slice (some ⟨b, off, none⟩) n cap) l := by
  subst hn
  refine ⟨_, cap, rfl, hc, hcm, (fun h => by cases h), fun x hx i hi => ?_⟩
  cases hx
  refine ⟨h.lt, ?_⟩
  rw [add_eq, h.cell (by omega), hf i hi]
theorem numB_w32 (l : List UInt8) : (numB l 4 : Int) = ((BitVec.ofNat 32 (numB l 4)).toNat : Int) := (ofNat32 _ (numB_lt l 4)).symm
theorem add4_32 (a b c d : BitVec 32) : ((a.toNat : Int) + b.toNat + c.toNat + d.toNat) % 4294967296 = ((a + b + c + d).toNat : Int) := by
  simp only [BitVec.toNat_add]; omega
theorem sig_val32 (x : BitVec 32) (i j k : Nat) : bits .xor .u32 (bits .xor .u32 (rotr x i).toNat (rotr x j).toNat) ((x.toNat : Int) / 2 ^ k) = ((sig x i j k).toNat : Int) := by
  rw [shr32, xor32, xor32]; rfl
theorem zeroR_32 : (Try.prog.info? 77).map (fun i => i.zero) = some (some (.agg (arrOf 64 fun _ => .int .u32 0))) := by kernel_rfl
theorem arrR_32 : IsArr Try.prog 77 64 := ⟨by kernel_rfl, by kernel_rfl⟩
theorem arrB_32 : IsArr Try.prog 58 64 := ⟨by kernel_rfl, by kernel_rfl⟩

set_option maxHeartbeats 1600000 in
theorem spread256_any (blk : List UInt8) (w : World) (hl : blk.length = 64) :
    Calls Try.prog 66 #[.agg (arrOf 64 (u8f blk))] w fun e w' => e = .returned (.agg (arrOf 64 (w32 (k256.sched (k256.word blk))))) ∧ Below w.heap.size w w' := by
  go_enter Try.func66, Try.ntmps66
  have hX := ((rowIs_arr w 64 (u8f blk) 58).alloc (.cells (arrOf 64 fun _ => .int .u32 0) 77)).alloc (.cells (arrOf 64 fun _ => .int .u32 0) 77)
  have hA := (rowIs_arr (w.alloc (.cells (arrOf 64 (u8f blk)) 58)) 64 (fun _ => .int .u32 0) 77).alloc (.cells (arrOf 64 fun _ => .int .u32 0) 77)
  have hB := rowIs_arr ((w.alloc (.cells (arrOf 64 (u8f blk)) 58)).alloc (.cells (arrOf 64 fun _ => .int .u32 0) 77)) 64 (fun _ => .int .u32 0) 77
  have hb : Below w.heap.size w (((w.alloc (.cells (arrOf 64 (u8f blk)) 58)).alloc (.cells (arrOf 64 fun _ => .int .u32 0) 77)).alloc (.cells (arrOf 64 fun _ => .int .u32 0) 77)) :=
    (((Below.refl _ _).alloc (Nat.le_refl _) _).alloc (by simp only [World.size_alloc]; omega) _).alloc (by simp only [World.size_alloc]; omega) _
  simp only [World.size_alloc] at hX hA hB
  go_wp2_with (first
    | refine wpList_alloc_arr rfl 77 rfl (arrOf 64 fun _ => .int .u32 0) zeroR_32 ?_)
  go_loopw [10] (fun i wr => ∃ j : Nat, j ≤ 16 ∧ i = .int .i64 j ∧ wr.rowIs w.heap.size 58 64 (u8f blk) ∧
    wr.rowIs (w.heap.size + 1 + 1) 77 64 (fun i => .int .u32 (if i < j then ((k256.sched (k256.word blk) i).toNat : Int) else 0)) ∧
    wr.rowIs (w.heap.size + 1) 77 64 (fun _ => .int .u32 0) ∧ Below w.heap.size w wr) (fun i _ => 16 - (intOf i).toNat)
  case atStart => exact ⟨0, Nat.zero_le _, rfl, hX, hB.congr fun i _ => rfl, hA, hb⟩
  case round =>
    obtain ⟨j, hj, rfl, hblk, hrow, hres, hbel⟩ := hrel
    clear hX hA hB hb
    by_cases hlt : j < 16
    · have hcell := hrow.cell (i := j) (by omega)
      have hfr := hrow.frozen j
      have HB : Hid (Bs wr (.slice (some ⟨w.heap.size, 4 * j, none⟩) (64 - 4 * j) (64 - 4 * j)) (blk.drop (4 * j))) := Lib.hid (Bs.of_part hblk _ (by rw [List.length_drop, hl]) (by omega) (Nat.le_refl _) (by unfold maxLen; omega) fun i hi => by
        rw [List.length_drop] at hi
        unfold u8f
        rw [List.getElem_drop, List.getD_eq_getElem?_getD, List.getElem?_eq_getElem (by omega)]; rfl)
      go_wp2_with (first
        | refine wpList_sliceFrom_arr rfl 58 5 (.tmp 1) (.tmp 15) rfl Try.underlying58 (by kernel_rfl) (j := 4 * j) rfl rfl (by omega) (by omega) ?_
        | (go_at_call 72; refine (get32_any _ _ _ HB.out).mono ?_; rintro e w1 ⟨rfl, rfl⟩))
      go_roundw
      case rel =>
        refine ⟨j + 1, by omega, by go_num, hblk.setOther (by show w.heap.size ≠ w.heap.size + 1 + 1; omega) _, (hrow.set j _).congr fun i hi => ?_, hres.setOther (by show w.heap.size + 1 ≠ w.heap.size + 1 + 1; omega) _, hbel.setCell (by show w.heap.size ≤ w.heap.size + 1 + 1; omega) _⟩
        show (if i = j then _ else _) = _
        by_cases e : i = j
        · subst e
          rw [if_pos rfl, if_pos (by omega), Kind.sched_low _ _ _ hlt]
          exact congrArg (Value.int .u32) (numB_w32 _)
        · rw [if_neg e]
          by_cases h2 : i < j
          · rw [if_pos h2, if_pos (by omega)]
          · rw [if_neg h2, if_neg (by omega)]
      case measure => simp [intOf]; omega
    · obtain rfl : j = 16 := by omega
      clear hblk hlt hj
      go_wp2
      go_loopw [5] (fun i wr => ∃ j : Nat, 16 ≤ j ∧ j ≤ 64 ∧ i = .int .i64 j ∧
        wr.rowIs (w.heap.size + 1 + 1) 77 64 (fun i => .int .u32 (if i < j then ((k256.sched (k256.word blk) i).toNat : Int) else 0)) ∧
        wr.rowIs (w.heap.size + 1) 77 64 (fun _ => .int .u32 0) ∧ Below w.heap.size w wr) (fun i _ => 64 - (intOf i).toNat)
      case atStart => exact ⟨16, by omega, by omega, rfl, hrow, hres, hbel⟩
      case round =>
        clear hrow hres hbel
        obtain ⟨j, hj0, hj, rfl, hrow, hres, hbel⟩ := hrel
        by_cases hlt : j < 64
        · have c15 := hrow.cell (i := j - 15) (by omega)
          have c2 := hrow.cell (i := j - 2) (by omega)
          have c7 := hrow.cell (i := j - 7) (by omega)
          have c16 := hrow.cell (i := j - 16) (by omega)
          have c0 := hrow.cell (i := j) (by omega)
          rw [if_pos (by omega)] at c15 c2 c7 c16
          rw [if_neg (by omega)] at c0
          have hfr := hrow.frozen j
          have b1 : (15 : Int) ≤ (j : Int) := by omega
          have b2 : (j : Int) < 64 := by omega
          have hs : IntKind.u32.signed = false := rfl
          go_wp2
          go_quiet (fail)
          go_wp2_with (go_at_call 74; refine (rotl32_lit _ _ _ (by omega) (by omega)).mono ?_; rintro e w1 ⟨rfl, rfl⟩)
          go_region
          go_wp2
          go_roundw
          case rel =>
            (repeat apply Exists.intro)
            refine ⟨?_, rfl⟩
            refine ⟨j + 1, by omega, by omega, by go_num, (hrow.set j _).congr fun i hi => ?_, hres.setOther (by show w.heap.size + 1 ≠ w.heap.size + 1 + 1; omega) _, below_drewN (hbel.setCell (by show w.heap.size ≤ w.heap.size + 1 + 1; omega) _) _⟩
            show (if i = j then _ else _) = _
            by_cases e : i = j
            · subst e
              rw [if_pos rfl, if_pos (by omega), Kind.sched_high _ _ _ hj0]
              refine congrArg (Value.int .u32) ?_
              have e1 : bits .xor .u32 (bits .xor .u32 (rotr (k256.sched (k256.word blk) (i - 2)) 17).toNat (rotr (k256.sched (k256.word blk) (i - 2)) 19).toNat) (((k256.sched (k256.word blk) (i - 2)).toNat : Int) / 1024) = ((k256.low1 (k256.sched (k256.word blk) (i - 2))).toNat : Int) := sig_val32 _ 17 19 10
              have e2 : bits .xor .u32 (bits .xor .u32 (rotr (k256.sched (k256.word blk) (i - 15)) 7).toNat (rotr (k256.sched (k256.word blk) (i - 15)) 18).toNat) (((k256.sched (k256.word blk) (i - 15)).toNat : Int) / 8) = ((k256.low0 (k256.sched (k256.word blk) (i - 15))).toNat : Int) := sig_val32 _ 7 18 3
              rw [e1, e2]
              exact add4_32 _ _ _ _
            · rw [if_neg e]
              by_cases h2 : i < j
              · rw [if_pos h2, if_pos (by omega)]
              · rw [if_neg h2, if_neg (by omega)]
          case measure => simp [intOf]; omega
        · obtain rfl : j = 64 := by omega
          have hrowR : wr.rowIs (w.heap.size + 1 + 1) 77 64 (w32 (k256.sched (k256.word blk))) := hrow.congr fun i hi => by rw [if_pos hi]; rfl
          go_wp2_with (first
            | refine wpList_load_arr rfl 77 (.tmp 3) rfl 64 arrR_32 hrowR rfl (by omega) ?_
            | (refine wpList_store_arr rfl 77 (.tmp 2) (.tmp 63) rfl 64 arrR_32 hres rfl rfl (by omega) (fun _ _ => rfl) ?_; intro w2 hr2 hg2 hs2))
          refine ret_cell_arr rfl arrR_32 hr2 rfl (by omega) rfl ⟨?_, hbel.grown hg2 hbel.size (by intro k hk; cases hk; omega)⟩
          refine congrArg (fun c => Ending.returned (Value.agg c)) (arrOf_congr fun i hi => ?_)
          unfold putN
          rw [if_pos (by omega)]
          simp only [Nat.zero_add, Nat.sub_zero]
end Go.Proofs.Ytclbfbkbmiijnaa

/- One more block: sha2's press256, press512. -/
set_option linter.unusedSimpArgs false
set_option linter.unusedVariables false
namespace Go.Proofs.Ytclbfbkbmiijnaa
open Go.RowKit Go.Deep
theorem K32_val' (i : Nat) : ((K64 i).toNat : Int) / 4294967296 = ((K32 i).toNat : Int) := (K32_val i).symm
theorem press_a32 (W h t c : BitVec 32) (j : Nat) (g m : BitVec 32) : ((((W.toNat : Int) + ((h.toNat : Int) + t.toNat + c.toNat + ((K64 j).toNat : Int) / 4294967296)) + g.toNat) % 4294967296 + m.toNat) % 4294967296 = ((W + (h + t + c + K32 j) + g + m).toNat : Int) := by
  rw [K32_val']; simp only [BitVec.toNat_add]; omega
theorem press_e32 (d W h t c : BitVec 32) (j : Nat) : ((d.toNat : Int) + ((W.toNat : Int) + ((h.toNat : Int) + t.toNat + c.toNat + ((K64 j).toNat : Int) / 4294967296)) % 4294967296) % 4294967296 = ((d + (W + (h + t + c + K32 j))).toNat : Int) := by
  rw [K32_val']; simp only [BitVec.toNat_add]; omega
set_option maxHeartbeats 4000000 in
theorem press256_any (s : S8 32) (blk : List UInt8) (w : World) (hl : blk.length = 64) :
    Calls Try.prog 56 #[.agg (arrOf 8 (w32 s.at)), .agg (arrOf 64 (u8f blk))] w fun e w' => e = .returned (.agg (arrOf 8 (w32 (k256.press s blk).at))) ∧ Below w.heap.size w w' := by
  go_enter Try.func56, Try.ntmps56
  have hA := ((rowIs_arr w 8 (w32 s.at) 75).alloc (.cells (arrOf 64 (u8f blk)) 58)).alloc (.cells (arrOf 8 fun _ => .int .u32 0) 75)
  have hB := (rowIs_arr (w.alloc (.cells (arrOf 8 (w32 s.at)) 75)) 64 (u8f blk) 58).alloc (.cells (arrOf 8 fun _ => .int .u32 0) 75)
  have hC := rowIs_arr ((w.alloc (.cells (arrOf 8 (w32 s.at)) 75)).alloc (.cells (arrOf 64 (u8f blk)) 58)) 8 (fun _ => .int .u32 0) 75
  have hb : Below w.heap.size w (((w.alloc (.cells (arrOf 8 (w32 s.at)) 75)).alloc (.cells (arrOf 64 (u8f blk)) 58)).alloc (.cells (arrOf 8 fun _ => .int .u32 0) 75)) :=
    (((Below.refl _ _).alloc (Nat.le_refl _) _).alloc (by simp only [World.size_alloc]; omega) _).alloc (by simp only [World.size_alloc]; omega) _
  simp only [World.size_alloc] at hA hB hC
  have hw : ∀ i, w32 s.at i = .int .u32 ((s.at i).toNat : Int) := fun _ => rfl
  go_wp2_with (first
    | refine wpList_alloc_arr rfl 75 rfl (arrOf 8 fun _ => .int .u32 0) zero8_32 ?_
    | (go_at_call 64; refine (roots_any _).mono ?_; rintro e w1 ⟨rfl, hb1⟩
       replace hA := hA.of_block (hb1.block _ hA.lt)
       replace hB := hB.of_block (hb1.block _ hB.lt)
       replace hC := hC.of_block (hb1.block _ hC.lt)
       replace hb := hb.trans (hb1.mono hb.size)
       replace hb := hb.alloc hb.size (.cells (arrOf 80 fun _ => .int .u64 0) 70)
       have hR := rowIs_arr w1 80 (fun _ => .int .u64 0) 70
       have hsz := hb1.size
       simp only [World.size_alloc] at hsz
       clear hb1)
    | refine wpList_alloc_arr rfl 70 rfl (arrOf 80 fun _ => .int .u64 0) zero80 ?_
    | (refine wpList_store_arr rfl 70 (.tmp 5) (.tmp 18) rfl 80 arr80 hR rfl rfl (by omega) (fun _ _ => rfl) ?_; intro w2 hr2 hg2 hs2
       replace hA := (hA.alloc (.cells (arrOf 80 fun _ => .int .u64 0) 70)).of_block (hg2.block _ (by simp only [World.size_alloc]; omega) (by intro h; have := Option.some.inj h; omega))
       replace hB := (hB.alloc (.cells (arrOf 80 fun _ => .int .u64 0) 70)).of_block (hg2.block _ (by simp only [World.size_alloc]; omega) (by intro h; have := Option.some.inj h; omega))
       replace hC := (hC.alloc (.cells (arrOf 80 fun _ => .int .u64 0) 70)).of_block (hg2.block _ (by simp only [World.size_alloc]; omega) (by intro h; have := Option.some.inj h; omega))
       replace hb := hb.grown hg2 hb.size (by intro k hk; cases hk; omega)
       replace hR := hr2.congr (g := w64 K64) (fun i hi => by unfold putN; rw [if_pos (by omega)]; rfl)
       clear hr2 hg2 hs2)
    | refine wpList_load_arr rfl 75 (.tmp 2) rfl 8 arr8_32 hA rfl (by omega) ?_
    | (go_at_call 65; refine (all32_any s.at _).mono ?_; rintro e w3 ⟨rfl, hb3⟩
       replace hA := hA.of_block (hb3.block _ hA.lt)
       replace hB := hB.of_block (hb3.block _ hB.lt)
       replace hC := hC.of_block (hb3.block _ hC.lt)
       replace hR := hR.of_block (hb3.block _ hR.lt)
       replace hb := hb.trans (hb3.mono hb.size)
       clear hb3)
    | refine wpList_load_arr rfl 58 (.tmp 3) rfl 64 arrB_32 hB rfl (by omega) ?_
    | (go_at_call 66; refine (spread256_any blk _ hl).mono ?_; rintro e w4 ⟨rfl, hb4⟩
       replace hA := hA.of_block (hb4.block _ hA.lt)
       replace hC := hC.of_block (hb4.block _ hC.lt)
       replace hR := hR.of_block (hb4.block _ hR.lt)
       replace hb := hb.trans (hb4.mono hb.size)
       clear hb4 hB))
  clear hw
  generalize w1.heap.size = nb at *
  obtain ⟨W, hW⟩ : ∃ W, W = k256.sched (k256.word blk) := ⟨_, rfl⟩
  rw [← hW]
  go_loopw [6, 7, 8, 9, 10, 11, 12, 13, 32] (fun a b c d e f g h i wr => ∃ (j : Nat) (s' : S8 32), j ≤ 64 ∧ Hid (s' = k256.rnd W s j) ∧ i = .int .i64 j ∧
    a = .int .u32 (s'.a.toNat : Int) ∧ b = .int .u32 (s'.b.toNat : Int) ∧ c = .int .u32 (s'.c.toNat : Int) ∧ d = .int .u32 (s'.d.toNat : Int) ∧
    e = .int .u32 (s'.e.toNat : Int) ∧ f = .int .u32 (s'.f.toNat : Int) ∧ g = .int .u32 (s'.g.toNat : Int) ∧ h = .int .u32 (s'.h.toNat : Int) ∧
    wr.rowIs w.heap.size 75 8 (w32 s.at) ∧ wr.rowIs (w.heap.size + 1 + 1) 75 8 (fun _ => .int .u32 0) ∧ wr.rowIs nb 70 80 (w64 K64) ∧ Below w.heap.size w wr) (fun _ _ _ _ _ _ _ _ i _ => 64 - (intOf i).toNat)
  case atStart => exact ⟨0, s, Nat.zero_le _, rfl, rfl, rfl, rfl, rfl, rfl, rfl, rfl, rfl, rfl, hA, hC, hR, hb⟩
  case round =>
    clear hA hC hR hb
    obtain ⟨j, s', hj, HS, rfl, rfl, rfl, rfl, rfl, rfl, rfl, rfl, rfl, hA, hC, hR, hb⟩ := hrel
    by_cases hlt : j < 64
    · have hcell : wr.cell? ⟨nb, j, none⟩ = some (.int .u64 ((K64 j).toNat : Int)) := hR.cell (by omega)
      have hw : w32 W j = .int .u32 ((W j).toNat : Int) := rfl
      have hs : IntKind.u64.signed = false := rfl
      have hj80 : (j : Int) < 80 := by omega
      clear hW
      go_wp2_with (first
        | refine wpList_index_arr rfl 77 74 (.tmp 31) (.tmp 32) rfl 64 Try.underlying77 _ Try.underlying74 rfl (by kernel_rfl) rfl rfl hlt ?_
        | (go_at_call 67; refine (turn32_lit _ _ _ _ _ (by omega) (by omega) (by omega) (by omega) (by omega) (by omega)).mono ?_; rintro e w1 ⟨rfl, rfl⟩))
      go_quiet ((go_at_call 68; exact Calls.quiet_of_same (choose32_any _ _ _ _)))
      go_wp2_with (go_at_call 69; refine (most32_any _ _ _ _).mono ?_; rintro e w1 ⟨rfl, rfl⟩)
      go_roundw
      case rel =>
        refine ⟨j + 1, k256.step (k256.num j) (W j) s', by omega, by rw [HS.out]; rfl, by go_num, ?_, rfl, rfl, rfl, ?_, rfl, rfl, rfl, hA, hC, hR, below_drewN hb _⟩
        · exact congrArg (Value.int .u32) (press_a32 (W j) s'.h (k256.big1 s'.e) (chz s'.e s'.f s'.g) j (k256.big0 s'.a) (maj s'.a s'.b s'.c))
        · exact congrArg (Value.int .u32) (press_e32 s'.d (W j) s'.h (k256.big1 s'.e) (chz s'.e s'.f s'.g) j)
      case measure => simp [intOf]; omega
    · obtain rfl : j = 64 := by omega
      go_wp2_with (first
        | refine wpList_load_arr rfl 75 (.tmp 2) rfl 8 arr8_32 hA rfl (by omega) ?_
        | refine wpList_build_arr rfl 75 _ rfl (arrOf 8 (w32 s'.at)) (by kernel_rfl) ?_
        | (go_at_call 70; refine (plus32_any s.at s'.at _).mono ?_; rintro e w5 ⟨rfl, hb5⟩
           replace hC := hC.of_block (hb5.block _ hC.lt)
           replace hb := hb.trans (hb5.mono hb.size)
           clear hb5)
        | (refine wpList_store_arr rfl 75 (.tmp 4) (.tmp 84) rfl 8 arr8_32 hC rfl rfl (by omega) (fun _ _ => rfl) ?_; intro w6 hr6 hg6 hs6))
      refine ret_cell_arr rfl arr8_32 hr6 rfl (by omega) rfl ⟨?_, hb.grown hg6 hb.size (by intro k hk; cases hk; omega)⟩
      refine congrArg (fun c => Ending.returned (Value.agg c)) (arrOf_congr fun i hi => ?_)
      unfold putN
      rw [if_pos (by omega)]
      have hp : k256.press s blk = S8.add s s' := by rw [HS.out, hW]; rfl
      rw [hp]
      simp only [Nat.zero_add, Nat.sub_zero]
      show Value.int .u32 ((s.at i + s'.at i).toNat : Int) = Value.int .u32 (((S8.add s s').at i).toNat : Int)
      rw [S8.at_add]

end Go.Proofs.Ytclbfbkbmiijnaa

/- What makes whole blocks: sha2's ending. -/
set_option linter.unusedSimpArgs false
set_option linter.unusedVariables false
namespace Go.Proofs.Ytclbfbkbmiijnaa
open Go.RowKit Go.Deep

theorem endRoom_ge (n B : Nat) (hB : 64 ≤ B) : 9 ≤ endRoom n B ∧ endRoom n B ≤ 2 * B := by
  have h1 : n % B < B := Nat.mod_lt _ (by omega)
  unfold endRoom; split <;> omega
theorem getD_of_lt (l : List UInt8) (i : Nat) (h : i < l.length) : l.getD i 0 = l[i] := by
  rw [List.getD_eq_getElem?_getD, List.getElem?_eq_getElem h]; rfl
theorem endOf_get (n B i : Nat) (hB : 64 ≤ B) (h : i < endRoom n B) : (endOf n B).getD i 0 = if i = 0 then 128 else if i < endRoom n B - 8 then 0 else (bigB (8 * n) 8).getD (i - (endRoom n B - 8)) 0 := by
  have h9 := endRoom_ge n B hB
  unfold endOf
  generalize endRoom n B = r at *
  have hl : ([128] ++ List.replicate (r - 9) (0 : UInt8)).length = r - 8 := by simp; omega
  rw [List.getD_eq_getElem?_getD, List.getElem?_append, hl]
  by_cases e1 : i = 0
  · subst e1; rw [if_pos (by omega)]; rfl
  · rw [if_neg e1]
    by_cases e2 : i < r - 8
    · rw [if_pos e2, if_pos e2]
      obtain ⟨j, rfl⟩ : ∃ j, i = j + 1 := ⟨i - 1, by omega⟩
      simp [show j < r - 9 by omega]
    · rw [if_neg e2, if_neg e2, List.getD_eq_getElem?_getD]

set_option maxHeartbeats 4000000 in
theorem ending64_any (n : Nat) (w : World) (hn : n < 2 ^ 60) :
    Calls Try.prog 58 #[.int .u64 n, .int .i64 64] w fun e w' => ∃ v, e = .returned v ∧ Bs w' v (endOf n 64) ∧ Below w.heap.size w w' ∧ ∃ c, v = .slice (some ⟨w.heap.size, 0, none⟩) (endOf n 64).length c := by
  obtain ⟨r, hr⟩ : ∃ r, r = endRoom n 64 := ⟨_, rfl⟩
  have hr9 : 9 ≤ r ∧ r ≤ 256 := by rw [hr]; have := endRoom_ge n 64 (by omega); omega
  have hmk : ∀ w : World, (Instr.makeSlice 22 (.int .i64 r) (.int .i64 r)).run Try.prog w = .ok (.slice (some ⟨w.heap.size, 0, none⟩) r r) (w.alloc (.cells (madeCells #[.int .u8 0] r) 5)) :=
    fun w => run_make_row' (P := Try.prog) 22 5 (.int .u8 0) 1 Try.underlying22 Try.info5 rfl .i64 .i64 r (by omega) (by omega) w
  have hmade := World.rowIs_made w (.int .u8 0) r 5
  have hc0 := hmade.cell (i := 0) (by omega)
  have hf0 := hmade.frozen 0
  have hr0 : (0 : Int) < (r : Int) := by omega
  go_enter Try.func58, Try.ntmps58
  by_cases hc : 64 - n % 64 < 1 + 64 / 8
  focus
    have hrI : (64 : Int) - (n : Int) % 64 + 64 = (r : Int) := by rw [hr]; unfold endRoom; rw [if_pos hc]; omega
    have hcI : (64 : Int) - (n : Int) % 64 < 9 := by omega
    have HR := Lib.hid hr
    clear hr hc
    go_wp2
  rotate_left
  focus
    have hrI : (64 : Int) - (n : Int) % 64 = (r : Int) := by rw [hr]; unfold endRoom; rw [if_neg hc]; omega
    have hcI : (9 : Int) ≤ (r : Int) := by rw [hr]; unfold endRoom; rw [if_neg hc]; omega
    have HR := Lib.hid hr
    clear hr hc
    go_wp2
  rotate_left
  all_goals
    have hrow := hmade.set 0 (.int .u8 128)
    have hb : Below w.heap.size w ((w.alloc (.cells (madeCells #[.int .u8 0] r) 5)).setCell ⟨w.heap.size, 0, none⟩ (.int .u8 128)) := ((Below.refl _ _).alloc (Nat.le_refl _) _).setCell (Nat.le_refl _) _
    rw [World.setCell_alloc_at _ _ _ _ _ rfl] at hrow hb
    generalize (w.alloc (.cells ((madeCells #[.int .u8 0] r).setIfInBounds 0 (.int .u8 128)) 5)) = w0 at *
    clear hmade hmk hc0 hf0 hr0 hcI hrI
    have hw8 : IntKind.i64.wrap ((r : Int) - 8) = ((r - 8 : Nat) : Int) := by rw [IntWalk.i64_in _ (by omega)]; omega
    have hm8 : IntKind.u64.wrap (8 * (n : Int)) = ((8 * n : Nat) : Int) := by rw [IntWalk.u64_in _ (by omega)]; omega
    replace hrow := hrow.drew
    replace hb := hb.drew
    refine wp_region_lins [(0, some []), (1, some []), (2, some []), (3, some [7]), (4, some []), (5, some [6]), (6, none), (7, none)] (fun _ _ => True) (by kernel_rfl) (by kernel_rfl) (by decide) (by kernel_rfl) (fun d _ _ _ _ h => by cases d <;> exact h) (fun _ _ => trivial) ?_
    refine lins_read 26 (Op.move (Operand.tmp 6)) 22 _ rfl rfl rfl rfl rfl (fun w0 hw0 => by unfold mkOp; go_simp; all_goals (with_reducible rfl)) ?_
    simp only [Act.put, List.setIfInBounds_toArray, List.set_cons_zero, List.set_cons_succ]
    refine lins_read 27 (Op.move (Operand.tmp 5)) 3 _ rfl rfl rfl rfl rfl (fun w0 hw0 => by unfold mkOp; go_simp; all_goals (with_reducible rfl)) ?_
    simp only [Act.put, List.setIfInBounds_toArray, List.set_cons_zero, List.set_cons_succ]
    refine lins_read 28 (Op.binOp BinOp.sub 3 (Operand.tmp 27) (Operand.const (Value.int IntKind.i64 8)) 3) 3 _ rfl rfl rfl rfl rfl (fun w0 hw0 => by unfold mkOp; go_simp; all_goals (with_reducible rfl)) ?_
    simp only [Act.put, List.setIfInBounds_toArray, List.set_cons_zero, List.set_cons_succ]
    refine lins_read 29 (Op.slice 22 (Operand.tmp 26) (some (Operand.tmp 28)) none none) 22 (.slice (some ⟨w.heap.size, r - 8, none⟩) 8 8) rfl rfl rfl rfl rfl (fun w0 hw0 => by exact exec_sliceAt _ _ _ _ _ _ (r - 8) Try.underlying22 (by kernel_rfl) rfl rfl (by omega) (by omega) (by omega) (by omega) (by omega) (by omega)) ?_
    simp only [Act.put, List.setIfInBounds_toArray, List.set_cons_zero, List.set_cons_succ]
    refine lins_read 30 (Op.move (Operand.tmp 0)) 42 _ rfl rfl rfl rfl rfl (fun w0 hw0 => by unfold mkOp; go_simp; all_goals (with_reducible rfl)) ?_
    simp only [Act.put, List.setIfInBounds_toArray, List.set_cons_zero, List.set_cons_succ]
    refine lins_read 31 (Op.binOp BinOp.mul 42 (Operand.const (Value.int IntKind.u64 8)) (Operand.tmp 30) 42) 42 _ rfl rfl rfl rfl rfl (fun w0 hw0 => by unfold mkOp; go_simp; all_goals (with_reducible rfl)) ?_
    simp only [Act.put, List.setIfInBounds_toArray, List.set_cons_zero, List.set_cons_succ]
    refine lins_fn (some 32) 44 #[Operand.tmp 31] #[42] _ (put64_any (8 * n) _ (by omega)) rfl rfl rfl rfl Try.func44 (by kernel_rfl) (by kernel_rfl) (by go_simp) ?_
    rintro e w1 ⟨v1, rfl, hB1, hb1⟩
    replace hrow := World.rowIs.of_block hrow (hb1.block _ hrow.lt)
    replace hb := hb.trans (hb1.mono hb.size)
    refine ⟨_, rfl, fun _ _ => True, fun _ _ => ⟨trivial, fun _ _ => trivial⟩, ?_⟩
    simp only [Act.put, List.setIfInBounds_toArray, List.set_cons_zero, List.set_cons_succ]
    refine lins_copy (some 33) (.tmp 29) (.tmp 32) 3 rfl rfl rfl rfl rfl hrow hB1 rfl rfl (by omega) 8 (by rw [bigB_length]; rfl) ?_
    intro w2 hr2 hg2 hs2
    refine ⟨fun _ _ => True, fun _ _ => ⟨trivial, fun _ _ => trivial⟩, ?_⟩
    try simp only [Act.put, List.setIfInBounds_toArray, List.set_cons_zero, List.set_cons_succ]
    refine lins_end ?_
    go_wp2
    go_ret
    refine ⟨_, rfl, Bs.of_part hr2 (endOf n 64) ?_ (by omega) (Nat.le_refl _) (by unfold maxLen; omega) ?_, hb.grown hg2 hb.size (by intro k hk; cases hk; omega), r, by rw [endOf_length _ _ (by omega), ← HR.out]; rfl⟩
    · rw [endOf_length _ _ (by omega), HR.out]
    · intro i hi
      rw [endOf_length _ _ (by omega)] at hi
      rw [← getD_of_lt _ i (by rw [endOf_length _ _ (by omega)]; exact hi), endOf_get n 64 i (by omega) hi, ← HR.out]
      rw [← HR.out] at hi
      rw [Nat.zero_add]
      unfold putN bytesAt
      by_cases e1 : i = 0
      · subst e1
        rw [if_neg (by omega), if_pos rfl]
        rfl
      · rw [if_neg e1]
        by_cases e2 : i < r - 8
        · rw [if_neg (by omega), if_pos e2]
          show (if i = 0 then _ else _) = _
          rw [if_neg e1]
          rfl
        · rw [if_pos (by omega), if_neg e2]

end Go.Proofs.Ytclbfbkbmiijnaa

/- A sum that is under way: the state behind the whole blocks, and the block that was begun; no world in it. -/
set_option linter.unusedSimpArgs false
set_option linter.unusedVariables false
namespace Go.Proofs.Ytclbfbkbmiijnaa
open Go.RowKit Go.Deep

def lst (B : Nat) (blk : Nat → UInt8) : List UInt8 := (List.range B).map blk
theorem lst_length (B : Nat) (blk : Nat → UInt8) : (lst B blk).length = B := by simp [lst]
theorem lst_get (B : Nat) (blk : Nat → UInt8) (i : Nat) (h : i < B) : (lst B blk)[i]? = some (blk i) := by simp [lst, h]
theorem lst_getD (B : Nat) (blk : Nat → UInt8) (i : Nat) (h : i < B) : (lst B blk).getD i 0 = blk i := by
  rw [List.getD_eq_getElem?_getD, lst_get B blk i h]; rfl
/-- blk with cs laid over it from place k on. -/
def patch (blk : Nat → UInt8) (k n : Nat) (cs : List UInt8) : Nat → UInt8 := fun i => if k ≤ i ∧ i < k + n then cs.getD (i - k) 0 else blk i

section
variable {n : Nat} (k : Kind n)
/-- Behind the bytes m: s is the state behind the whole blocks, blk begins with what is left. -/
structure Dig (m : List UInt8) (s : S8 n) (blk : Nat → UInt8) : Prop where
  state : s = k.state m (m.length / k.block)
  begun : ∀ i, i < m.length % k.block → blk i = m.getD (k.block * (m.length / k.block) + i) 0

theorem Dig.short {k : Kind n} {m : List UInt8} {s : S8 n} {blk : Nat → UInt8} (h : Dig k m s blk) (l : List UInt8) (c : Nat) (hc : c ≤ l.length) (hb : m.length % k.block + c < k.block) :
    Dig k (m ++ l.take c) s (patch blk (m.length % k.block) c l) := by
  obtain ⟨h1, h2⟩ := h
  have hl : (m ++ l.take c).length = m.length + c := by simp; omega
  have hdm := Nat.div_add_mod m.length k.block
  have hq : (m.length + c) / k.block = m.length / k.block := by
    rw [Nat.div_eq_iff (by omega)]
    constructor
    · rw [Nat.mul_comm]; omega
    · rw [Nat.mul_comm]; omega
  have hr : (m.length + c) % k.block = m.length % k.block + c := by
    have h3 := Nat.div_add_mod (m.length + c) k.block
    rw [hq] at h3
    omega
  refine ⟨?_, fun i hi => ?_⟩
  · rw [hl, hq, k.state_append _ _ _ (by omega)]; exact h1
  · rw [hl, hr] at hi
    rw [hl, hq]
    unfold patch
    have e0 : (m ++ l.take c).getD (k.block * (m.length / k.block) + i) 0 = ((m ++ l.take c)[k.block * (m.length / k.block) + i]?).getD 0 := List.getD_eq_getElem?_getD
    rw [e0, List.getElem?_append]
    by_cases e : i < m.length % k.block
    · rw [if_neg (by omega), if_pos (by omega), h2 i e, List.getD_eq_getElem?_getD]
    · rw [if_pos (by omega), if_neg (by omega), List.getElem?_take_of_lt (by omega), List.getD_eq_getElem?_getD]
      congr 2
      omega

theorem Dig.full {k : Kind n} {m : List UInt8} {s : S8 n} {blk : Nat → UInt8} (h : Dig k m s blk) (l : List UInt8) (c : Nat) (hc : c ≤ l.length) (hb : m.length % k.block + c = k.block) (hk : 0 < k.block) :
    Dig k (m ++ l.take c) (k.press s (lst k.block (patch blk (m.length % k.block) c l))) (patch blk (m.length % k.block) c l) := by
  obtain ⟨h1, h2⟩ := h
  have hl : (m ++ l.take c).length = m.length + c := by simp; omega
  have hdm := Nat.div_add_mod m.length k.block
  have hmul : m.length + c = k.block * (m.length / k.block + 1) := by rw [Nat.mul_add]; omega
  have hq : (m.length + c) / k.block = m.length / k.block + 1 := by rw [hmul, Nat.mul_div_cancel_left _ hk]
  have hr : (m.length + c) % k.block = 0 := by rw [hmul, Nat.mul_mod_right]
  refine ⟨?_, fun i hi => by rw [hl, hr] at hi; omega⟩
  rw [hl, hq]
  show _ = k.press (k.state (m ++ l.take c) (m.length / k.block)) _
  rw [k.state_append _ _ _ (by omega), ← h1]
  congr 1
  apply List.ext_getElem?
  intro i
  rw [List.getElem?_take, List.getElem?_drop]
  by_cases hi : i < k.block
  · rw [lst_get _ _ _ hi, if_pos hi, List.getElem?_append]
    unfold patch
    by_cases e : i < m.length % k.block
    · rw [if_neg (by omega), if_pos (by omega), h2 i e, List.getD_eq_getElem?_getD, List.getElem?_eq_getElem (by omega)]; rfl
    · rw [if_pos (by omega), if_neg (by omega), List.getElem?_take_of_lt (by omega), List.getD_eq_getElem?_getD]
      rw [show k.block * (m.length / k.block) + i - m.length = i - m.length % k.block by omega]
      rw [List.getElem?_eq_getElem (by omega)]; rfl
  · rw [if_neg hi, List.getElem?_eq_none (by rw [lst_length]; omega)]

/-- What the sum is, once the ending has come in too. -/
theorem Dig.sum {k : Kind n} {m : List UInt8} {s : S8 n} {blk : Nat → UInt8} (h : Dig k (m ++ endOf m.length k.block) s blk) : k.out s 8 = k.sum m := by
  rw [h.state]; rfl
end
end Go.Proofs.Ytclbfbkbmiijnaa

/- Where a sum that is under way lies in memory; the closures that press its block. -/
set_option linter.unusedSimpArgs false
set_option linter.unusedVariables false
namespace Go.Proofs.Ytclbfbkbmiijnaa
open Go.RowKit Go.Deep

def hashF (s : S8 32) (blk : Nat → UInt8) (z : Nat) : Nat → Value := fun i => if i < 8 then .int .u32 ((s.at i).toNat : Int) else if i < 72 then .int .u8 ((blk (i - 8)).toNat : Int) else .int .u64 (z : Int)
theorem hash_state (s : S8 32) (blk : Nat → UInt8) (z : Nat) : arrOf 8 (fun i => hashF s blk z (0 + i)) = arrOf 8 (w32 s.at) := arrOf_congr fun i hi => by
  unfold hashF; rw [Nat.zero_add, if_pos hi]; rfl
theorem hash_block (s : S8 32) (blk : Nat → UInt8) (z : Nat) : arrOf 64 (fun i => hashF s blk z (8 + i)) = arrOf 64 (u8f (lst 64 blk)) := arrOf_congr fun i hi => by
  unfold hashF u8f; rw [if_neg (by omega), if_pos (by omega), lst_getD _ _ _ hi, Nat.add_sub_cancel_left]

/-- A Hash256 at block y; block x is the variable that holds its address. -/
structure M256 (w : World) (x y : Nat) (s : S8 32) (blk : Nat → UInt8) (z : Nat) : Prop where
  box : w.cell? ⟨x, 0, none⟩ = some (.pointer (some ⟨y, 0, none⟩))
  lt : x < w.heap.size
  ne : x ≠ y
  row : w.rowIs y 83 73 (hashF s blk z)
theorem putN_state (s s' : S8 32) (blk : Nat → UInt8) (z : Nat) (i : Nat) (_hi : i < 73) : putN (hashF s blk z) 0 8 (w32 s'.at) i = hashF s' blk z i := by
  unfold putN hashF
  by_cases e : i < 8
  · rw [if_pos ⟨by omega, by omega⟩, if_pos e]; rfl
  · rw [if_neg (by omega), if_neg e, if_neg e]

set_option maxHeartbeats 1600000 in
/-- Hash256's press. -/
theorem press256_closure (x y : Nat) (s : S8 32) (blk : Nat → UInt8) (z : Nat) (w : World) (hM : M256 w x y s blk z) :
    Calls Try.prog 55 #[.pointer (some ⟨x, 0, none⟩)] w fun e w' => e = .returned (.tuple #[]) ∧ M256 w' x y (k256.press s (lst 64 blk)) blk z ∧ Tch x y w w' := by
  go_enter Try.func55, Try.ntmps55
  go_wp2
  refine wp_region_lins [(0, some [12]), (1, some [12]), (2, some [12]), (3, some [12]), (4, some [9, 12]), (5, some [12]), (6, some [12]), (7, some [12]), (8, some [9, 12]), (9, none), (10, some []), (11, some [12]), (12, none)] (fun c w' => (c = 9 → w' = w.drew) ∧ (c = 12 → w'.cell? ⟨x, 0, none⟩ = some (.pointer (some ⟨y, 0, none⟩)))) (by kernel_rfl) (by kernel_rfl) (by decide) (by kernel_rfl) (fun d _ _ _ _ h => by cases d <;> exact h) (fun c hc => ⟨fun _ => rfl, fun _ => hM.box⟩) ?_
  refine lins_read 1 (Op.load 61 (Operand.tmp 0)) 61 (.pointer (some ⟨y, 0, none⟩)) rfl rfl rfl rfl rfl (fun w0 hw0 => by exact exec_load_cell _ _ _ _ rfl (by kernel_rfl) ((hw0 12 (by simp)).2 rfl)) ?_
  simp only [Act.put, List.setIfInBounds_toArray, List.set_cons_zero, List.set_cons_succ]
  refine lins_read 2 (Op.load 61 (Operand.tmp 0)) 61 (.pointer (some ⟨y, 0, none⟩)) rfl rfl rfl rfl rfl (fun w0 hw0 => by exact exec_load_cell _ _ _ _ rfl (by kernel_rfl) ((hw0 12 (by simp)).2 rfl)) ?_
  simp only [Act.put, List.setIfInBounds_toArray, List.set_cons_zero, List.set_cons_succ]
  refine lins_read 3 (Op.nilCheck (Operand.tmp 2)) 0 _ rfl rfl rfl rfl rfl (fun w0 hw0 => by unfold mkOp; go_simp; all_goals (with_reducible rfl)) ?_
  simp only [Act.put, List.setIfInBounds_toArray, List.set_cons_zero, List.set_cons_succ]
  refine lins_read 4 (Op.fieldAddr 83 (Operand.tmp 3) 0) 0 _ rfl rfl rfl rfl rfl (fun w0 hw0 => by unfold mkOp; go_simp; all_goals (with_reducible rfl)) ?_
  simp only [Act.put, List.setIfInBounds_toArray, List.set_cons_zero, List.set_cons_succ]
  refine lins_read 5 (Op.load 75 (Operand.tmp 4)) 75 (.agg (arrOf 8 (w32 s.at))) rfl rfl rfl rfl rfl (fun w0 hw0 => by obtain rfl := (hw0 9 (by simp)).1 rfl; refine (exec_load_arr _ _ _ _ rfl arr8_32 hM.row.drew (by omega)).trans ?_; rw [hash_state]) ?_
  simp only [Act.put, List.setIfInBounds_toArray, List.set_cons_zero, List.set_cons_succ]
  refine lins_read 6 (Op.load 61 (Operand.tmp 0)) 61 (.pointer (some ⟨y, 0, none⟩)) rfl rfl rfl rfl rfl (fun w0 hw0 => by exact exec_load_cell _ _ _ _ rfl (by kernel_rfl) ((hw0 12 (by simp)).2 rfl)) ?_
  simp only [Act.put, List.setIfInBounds_toArray, List.set_cons_zero, List.set_cons_succ]
  refine lins_read 7 (Op.nilCheck (Operand.tmp 6)) 0 _ rfl rfl rfl rfl rfl (fun w0 hw0 => by unfold mkOp; go_simp; all_goals (with_reducible rfl)) ?_
  simp only [Act.put, List.setIfInBounds_toArray, List.set_cons_zero, List.set_cons_succ]
  refine lins_read 8 (Op.fieldAddr 83 (Operand.tmp 7) 1) 0 _ rfl rfl rfl rfl rfl (fun w0 hw0 => by unfold mkOp; go_simp; all_goals (with_reducible rfl)) ?_
  simp only [Act.put, List.setIfInBounds_toArray, List.set_cons_zero, List.set_cons_succ]
  refine lins_read 9 (Op.load 58 (Operand.tmp 8)) 58 (.agg (arrOf 64 (u8f (lst 64 blk)))) rfl rfl rfl rfl rfl (fun w0 hw0 => by obtain rfl := (hw0 9 (by simp)).1 rfl; refine (exec_load_arr _ _ _ _ rfl arrB_32 hM.row.drew (by omega)).trans ?_; rw [hash_block]) ?_
  simp only [Act.put, List.setIfInBounds_toArray, List.set_cons_zero, List.set_cons_succ]
  refine lins_fn (some 10) 56 #[Operand.tmp 5, Operand.tmp 9] #[75, 58] _ (press256_any s (lst 64 blk) _ (lst_length _ _)) rfl rfl rfl rfl Try.func56 (by kernel_rfl) (by kernel_rfl) (by go_simp) ?_
  rintro e w2 ⟨rfl, hb2⟩
  have hrow2 := hM.row.drew.of_block (hb2.block _ hM.row.lt)
  have hbox2 := (hb2.cell (p := ⟨x, 0, none⟩) hM.lt).trans hM.box
  refine ⟨_, rfl, fun c w' => c = 12 → w'.cell? ⟨x, 0, none⟩ = some (.pointer (some ⟨y, 0, none⟩)), fun c hc => ⟨fun _ => hbox2, fun w3 h3 => ⟨fun h9 => by subst h9; cases hc <;> contradiction, h3⟩⟩, ?_⟩
  simp only [Act.put, List.setIfInBounds_toArray, List.set_cons_zero, List.set_cons_succ]
  refine lins_read 11 (Op.nilCheck (Operand.tmp 1)) 0 _ rfl rfl rfl rfl rfl (fun w0 hw0 => by unfold mkOp; go_simp; all_goals (with_reducible rfl)) ?_
  simp only [Act.put, List.setIfInBounds_toArray, List.set_cons_zero, List.set_cons_succ]
  refine lins_read 12 (Op.fieldAddr 83 (Operand.tmp 11) 0) 0 _ rfl rfl rfl rfl rfl (fun w0 hw0 => by unfold mkOp; go_simp; all_goals (with_reducible rfl)) ?_
  simp only [Act.put, List.setIfInBounds_toArray, List.set_cons_zero, List.set_cons_succ]
  refine lins_store_arr 75 (.tmp 12) (.tmp 10) rfl rfl rfl rfl hrow2 rfl rfl arr8_32 (by omega) (fun _ _ => rfl) ?_
  intro w3 hr3 hg3 hs3
  refine ⟨fun _ _ => True, fun c hc => (by cases hc), ?_⟩
  try simp only [Act.put, List.setIfInBounds_toArray, List.set_cons_zero, List.set_cons_succ]
  refine lins_end ?_
  go_wp2
  go_end0
  refine ⟨rfl, ⟨?_, Nat.lt_of_lt_of_le hM.lt (Nat.le_trans hb2.size hg3.size), hM.ne, hr3.congr fun i hi => putN_state s _ blk z i hi⟩, ((Tch.refl x y w).drew.trans (Tch.of_below hb2)).trans (Tch.right hg3)⟩
  exact (World.cell?_of_block (w := w2) (hg3.block _ (Nat.lt_of_lt_of_le hM.lt hb2.size) (fun e => hM.ne (Option.some.inj e)))).trans hbox2

end Go.Proofs.Ytclbfbkbmiijnaa

/- sha2's cut: bytes come in, whole blocks are pressed. -/
set_option linter.unusedSimpArgs false
set_option linter.unusedVariables false
namespace Go.Proofs.Ytclbfbkbmiijnaa
open Go.RowKit Go.Deep

theorem putN_copy32 (s : S8 32) (blk : Nat → UInt8) (z k c : Nat) (l : List UInt8) (hk : k + c ≤ 64) (i : Nat) : putN (hashF s blk z) (8 + k) c (bytesAt l) i = hashF s (patch blk k c l) z i := by
  unfold putN hashF bytesAt patch
  by_cases e : 8 + k ≤ i ∧ i < 8 + k + c
  · rw [if_pos e, if_neg (by omega), if_pos (by omega), if_pos (by omega), show i - (8 + k) = i - 8 - k by omega]
  · rw [if_neg e]
    by_cases e1 : i < 8
    · rw [if_pos e1, if_pos e1]
    · rw [if_neg e1, if_neg e1]
      by_cases e2 : i < 72
      · rw [if_pos e2, if_pos e2, if_neg (by omega)]
      · rw [if_neg e2, if_neg e2]
theorem M256.copied {w w' : World} {x y : Nat} {s : S8 32} {blk : Nat → UInt8} {z k c p : Nat} {l : List UInt8} (h : M256 w x y s blk z) (hp : p = 8 + k) (hk : k + c ≤ 64) (hr : w'.rowIs y 83 73 (putN (hashF s blk z) p c (bytesAt l))) (hg : w.grownBy w' (some y)) : M256 w' x y s (patch blk k c l) z :=
  ⟨(World.cell?_of_block (w := w) (hg.block _ h.lt (fun e => h.ne (Option.some.inj e)))).trans h.box, Nat.lt_of_lt_of_le h.lt hg.size, h.ne, hr.congr fun i _ => by rw [hp]; exact putN_copy32 s blk z k c l hk i⟩
set_option maxHeartbeats 4000000 in
theorem cut256_any (x y : Nat) (s : S8 32) (blk : Nat → UInt8) (z : Nat) (m l : List UInt8) (vb : Value) (w : World) (hM : M256 w x y s blk z) (hD : Dig k256 m s blk) (hB : Bs w vb l) (hx : Away vb x) (hy : Away vb y) (hlen : m.length + l.length < 2 ^ 60) :
    Calls Try.prog 54 #[.slice (some ⟨y, 8, none⟩) 64 64, .int .u64 m.length, vb, .func (.func 55) #[] #[.pointer (some ⟨x, 0, none⟩)]] w fun e w' =>
      e = .returned (.int .u64 ((m.length + l.length : Nat) : Int)) ∧ ∃ s' blk', M256 w' x y s' blk' z ∧ Dig k256 (m ++ l) s' blk' ∧ Tch x y w w' := by
  obtain ⟨ad0, n0, cap0, rfl, hn0, _, _, hB0⟩ := hB.shape
  go_enter Try.func54, Try.ntmps54
  clear hB
  have HB := Lib.hid hB0
  have HL := Lib.hid hn0
  have hn60 : m.length + n0 < 2 ^ 60 := by omega
  clear hB0 hn0
  go_wp2
  go_loopw [1, 2] (fun size b wr => ∃ (j : Nat) (ad : Option Addr) (cap : Nat) (s : S8 32) (blk : Nat → UInt8) (q : Nat), j ≤ n0 ∧ Hid ((m ++ l.take j).length = q) ∧ Hid (q = m.length + j) ∧ size = .int .u64 (q : Int) ∧ b = .slice ad (n0 - j) cap ∧
    Hid (Bs wr (.slice ad (n0 - j) cap) (l.drop j)) ∧ Away (.slice ad (n0 - j) cap) x ∧ Away (.slice ad (n0 - j) cap) y ∧ M256 wr x y s blk z ∧ Dig k256 (m ++ l.take j) s blk ∧ Tch x y w wr) (fun size _ _ => m.length + n0 - (intOf size).toNat)
  case atStart => exact ⟨0, ad0, cap0, s, blk, m.length, Nat.zero_le _, by rw [List.take_zero, List.append_nil]; rfl, rfl, rfl, rfl, HB.out, hx, hy, hM, by simpa using hD, Tch.refl _ _ _⟩
  case round =>
    clear hM hD HB
    obtain ⟨j, ad, cap, s, blk, q, hj, HQ, hq, rfl, rfl, HB, hax, hay, hM, hD, ht⟩ := hrel
    have hqb : q < 2 ^ 60 := by have := hq.out; omega
    by_cases hlt : j < n0
    · obtain ⟨k, hk⟩ : ∃ k, k = q % 64 := ⟨_, rfl⟩
      have hkB : k < 64 := by omega
      have kI : (q : Int) % 64 = (k : Int) := by omega
      obtain ⟨c, hc⟩ : ∃ c, c = Nat.min (n0 - j) (64 - k) := ⟨_, rfl⟩
      have hc1 : c ≤ n0 - j := by rw [hc]; exact Nat.min_le_left _ _
      have hc2 : c ≤ 64 - k := by rw [hc]; exact Nat.min_le_right _ _
      have hc3 : 0 < c := by rw [hc]; exact Nat.lt_min.2 ⟨by omega, by omega⟩
      have hpos : (0 : Int) < ((n0 - j : Nat) : Int) := by omega
      have HC := Lib.hid hc
      have HK := Lib.hid hk
      have hq60 : q + c < 2 ^ 60 := by have := hq.out; omega
      clear hk hc
      by_cases hfull : k + c = 64
      · have hz : ((q : Int) + (c : Int)) % 64 = 0 := by have := HK.out; omega
        go_wp2_with (first
          | refine wpList_op rfl (.slice 22 (.tmp 17) (some (.tmp 20)) none none) 22 (.slice (some ⟨y, 8 + k, none⟩) (64 - k) (64 - k)) rfl rfl (exec_sliceAt _ _ _ _ _ _ k Try.underlying22 (by kernel_rfl) rfl rfl rfl (by omega) (by omega) rfl rfl rfl) ?_
          | (refine wpList_copy_bytes rfl (.tmp 21) (.tmp 22) rfl hM.row HB.out rfl rfl (by omega) c (by rw [List.length_drop, HL.out]; exact HC.out) ?_; intro w2 hr2 hg2 hs2
             have hM2 := hM.copied (k := k) (by omega) (by omega) hr2 hg2
             have HB2 := Lib.hid (HB.out.touched (Tch.right hg2) hax hay)
             clear HB)
          | (refine wpList_bsFrom rfl (.tmp 24) (.tmp 25) rfl HB2.out c rfl rfl rfl (by omega) ?_; intro ad' had' hB3
             have HA := Lib.hid had'
             have HB3 := Lib.hid hB3
             clear had' hB3)
          | (go_at_call 55; refine (press256_closure x y s _ z _ hM2).mono ?_; rintro e w3 ⟨rfl, hM3, ht3⟩))
        go_roundw
        case rel =>
          have hdd : l.drop (j + c) = (l.drop j).drop c := by rw [List.drop_drop]
          have htt : m ++ l.take (j + c) = (m ++ l.take j) ++ (l.drop j).take c := by rw [List.append_assoc, List.take_add]
          have hmod : (m ++ l.take j).length % k256.block = k := by rw [HQ.out]; exact HK.out.symm
          refine ⟨j + c, ad', cap - c, _, _, q + c, by omega, ?_, by have := hq.out; show _ = _; omega, by go_num, by rw [Nat.sub_sub], ?_, ?_, ?_, hM3, ?_, (ht.trans (Tch.right hg2)).trans ht3⟩
          · show _ = _
            rw [htt, List.length_append, HQ.out, List.length_take, List.length_drop, HL.out]
            omega
          · rw [hdd, ← Nat.sub_sub]
            refine HB3.out.touched ht3 ?_ ?_
            · rw [HA.out]; exact hax.drop (by omega)
            · rw [HA.out]; exact hay.drop (by omega)
          · rw [HA.out]; exact hax.drop (by omega)
          · rw [HA.out]; exact hay.drop (by omega)
          · have hf := hD.full (l.drop j) c (by rw [List.length_drop, HL.out]; exact hc1) (by rw [hmod]; exact hfull) (by decide)
            rw [hmod] at hf
            rw [htt]
            exact hf
        case measure => have := hq.out; simp [intOf]; omega
      · have hzn : ((q : Int) + (c : Int)) % 64 = ((k + c : Nat) : Int) := by have := HK.out; omega
        have hz0 : ¬ ((k + c : Nat) : Int) = 0 := by omega
        go_wp2_with (first
          | refine wpList_op rfl (.slice 22 (.tmp 17) (some (.tmp 20)) none none) 22 (.slice (some ⟨y, 8 + k, none⟩) (64 - k) (64 - k)) rfl rfl (exec_sliceAt _ _ _ _ _ _ k Try.underlying22 (by kernel_rfl) rfl rfl rfl (by omega) (by omega) rfl rfl rfl) ?_
          | (refine wpList_copy_bytes rfl (.tmp 21) (.tmp 22) rfl hM.row HB.out rfl rfl (by omega) c (by rw [List.length_drop, HL.out]; exact HC.out) ?_; intro w2 hr2 hg2 hs2
             have hM2 := hM.copied (k := k) (by omega) (by omega) hr2 hg2
             have HB2 := Lib.hid (HB.out.touched (Tch.right hg2) hax hay)
             clear HB)
          | (refine wpList_bsFrom rfl (.tmp 24) (.tmp 25) rfl HB2.out c rfl rfl rfl (by omega) ?_; intro ad' had' hB3
             have HA := Lib.hid had'
             have HB3 := Lib.hid hB3
             clear had' hB3))
        go_roundw
        case rel =>
          have hdd : l.drop (j + c) = (l.drop j).drop c := by rw [List.drop_drop]
          have htt : m ++ l.take (j + c) = (m ++ l.take j) ++ (l.drop j).take c := by rw [List.append_assoc, List.take_add]
          have hmod : (m ++ l.take j).length % k256.block = k := by rw [HQ.out]; exact HK.out.symm
          refine ⟨j + c, ad', cap - c, _, _, q + c, by omega, ?_, by have := hq.out; show _ = _; omega, by go_num, by rw [Nat.sub_sub], ?_, ?_, ?_, hM2, ?_, ht.trans (Tch.right hg2)⟩
          · show _ = _
            rw [htt, List.length_append, HQ.out, List.length_take, List.length_drop, HL.out]
            omega
          · rw [hdd, ← Nat.sub_sub]
            exact HB3.out
          · rw [HA.out]; exact hax.drop (by omega)
          · rw [HA.out]; exact hay.drop (by omega)
          · have hf := hD.short (l.drop j) c (by rw [List.length_drop, HL.out]; exact hc1) (by rw [hmod]; show k + c < 64; omega)
            rw [hmod] at hf
            rw [htt]
            exact hf
        case measure => have := hq.out; simp [intOf]; omega
    · obtain rfl : j = n0 := by omega
      go_wp2
      go_ret
      refine ⟨?_, s, blk, hM, ?_, ht⟩
      · have e1 := hq.out
        have e2 := HL.out
        subst e2
        rw [e1]
        rfl
      · rw [← HL.out, List.take_length] at hD
        exact hD

end Go.Proofs.Ytclbfbkbmiijnaa

/- Hash256: Add. -/
set_option linter.unusedSimpArgs false
set_option linter.unusedVariables false
namespace Go.Proofs.Ytclbfbkbmiijnaa
open Go.RowKit Go.Deep

/-- At block y lies a Hash256 to which the bytes m came. -/
def HashAt (w : World) (y : Nat) (m : List UInt8) : Prop := ∃ s blk, w.rowIs y 83 73 (hashF s blk m.length) ∧ (m ≠ [] → Dig k256 m s blk)
theorem HashAt.of_block {w w' : World} {y : Nat} {m : List UInt8} (h : HashAt w y m) (e : w'.heap[y]? = w.heap[y]?) : HashAt w' y m := by
  obtain ⟨s, blk, h1, h2⟩ := h
  exact ⟨s, blk, h1.of_block e, h2⟩
theorem HashAt.lt {w : World} {y : Nat} {m : List UInt8} (h : HashAt w y m) : y < w.heap.size := by
  obtain ⟨s, blk, h1, h2⟩ := h
  exact h1.lt
theorem putN_first (s : S8 32) (blk : Nat → UInt8) (z : Nat) (i : Nat) (_hi : i < 73) : putN (hashF s blk z) 0 8 (w32 I32) i = hashF k256.first blk z i := by
  unfold putN hashF
  by_cases e : i < 8
  · rw [if_pos ⟨by omega, by omega⟩, if_pos e]
    show w32 I32 (i - 0) = Value.int .u32 (((S8.of I32).at i).toNat : Int)
    rw [S8.at_of _ _ e]; rfl
  · rw [if_neg (by omega), if_neg e, if_neg e]
theorem dig_nil (blk : Nat → UInt8) : Dig k256 [] k256.first blk := ⟨rfl, fun i hi => by simp at hi⟩
theorem hash_size (s : S8 32) (blk : Nat → UInt8) (z z' : Nat) (i : Nat) (hi : i < 73) : (if i = 72 then (.int .u64 (z' : Int) : Value) else hashF s blk z i) = hashF s blk z' i := by
  unfold hashF
  by_cases e : i = 72
  · subst e; rfl
  · rw [if_neg e]
    by_cases e1 : i < 8
    · rw [if_pos e1, if_pos e1]
    · rw [if_neg e1, if_neg e1, if_pos (by omega), if_pos (by omega)]

set_option maxHeartbeats 4000000 in
theorem hadd_any (y : Nat) (m l : List UInt8) (vb : Value) (w : World) (hH : HashAt w y m) (hB : Bs w vb l) (hy : Away vb y) (hlen : m.length + l.length < 2 ^ 60) :
    Calls Try.prog 40 #[.pointer (some ⟨y, 0, none⟩), vb] w fun e w' => e = .returned (.tuple #[]) ∧ HashAt w' y (m ++ l) ∧ w.grownBy w' (some y) := by
  obtain ⟨s, blk, hrow, hD⟩ := hH
  have hyl := hrow.lt
  have hbox : (w.alloc (.cells #[.pointer (some ⟨y, 0, none⟩)] 61)).cell? ⟨w.heap.size, 0, none⟩ = some (.pointer (some ⟨y, 0, none⟩)) := by simp
  have hlt : w.heap.size < (w.alloc (.cells #[.pointer (some ⟨y, 0, none⟩)] 61)).heap.size := by simp
  have hg : w.grownBy (w.alloc (.cells #[.pointer (some ⟨y, 0, none⟩)] 61)) (some y) := World.grownBy_alloc w _ _
  have hax : Away vb w.heap.size := hB.away (Nat.le_refl _)
  have hne : w.heap.size ≠ y := by omega
  have HB := Lib.hid (hB.below ((Below.refl _ _).alloc (Nat.le_refl _) (.cells #[.pointer (some ⟨y, 0, none⟩)] 61)) (Nat.le_refl _))
  clear hB
  replace hrow := hrow.alloc (.cells #[.pointer (some ⟨y, 0, none⟩)] 61)
  go_enter Try.func40, Try.ntmps40
  have hsz : (w.alloc (.cells #[.pointer (some ⟨y, 0, none⟩)] 61)).cell? ⟨y, 72, none⟩ = some (.int .u64 (m.length : Int)) := hrow.cell (i := 72) (by omega)
  by_cases hm : m.length = 0
  focus
    obtain rfl : m = [] := List.eq_nil_of_length_eq_zero hm
    have hmI : (([] : List UInt8).length : Int) = 0 := rfl
    go_wp2
    generalize w.alloc (.cells #[.pointer (some ⟨y, 0, none⟩)] 61) = w1 at *
    generalize hxe : w.heap.size = x at *
    have hx0 : w.heap.size ≤ x := by omega
    replace hrow := hrow.drew
    replace hbox : w1.drew.cell? ⟨x, 0, none⟩ = some (.pointer (some ⟨y, 0, none⟩)) := hbox
    replace hlt : x < w1.drew.heap.size := hlt
    replace hg := Tch.grown hg (Tch.refl x y w1).drew hx0
    replace HB := Lib.hid (HB.out.touched (Tch.refl x y w1).drew hax hy)
    clear hsz
    refine wp_region_lins [(0, some [4]), (1, none), (2, some []), (3, some [4]), (4, none)] (fun c w' => c = 4 → w'.cell? ⟨x, 0, none⟩ = some (.pointer (some ⟨y, 0, none⟩))) (by kernel_rfl) (by kernel_rfl) (by decide) (by kernel_rfl) (fun d _ _ _ _ h => by cases d <;> exact h) (fun c hc _ => hbox) ?_
    refine lins_read 11 (Op.load 61 (Operand.tmp 2)) 61 (.pointer (some ⟨y, 0, none⟩)) rfl rfl rfl rfl rfl (fun w0 hw0 => by exact exec_load_cell _ _ _ _ rfl (by kernel_rfl) (hw0 4 (by simp) rfl)) ?_
    simp only [Act.put, List.setIfInBounds_toArray, List.set_cons_zero, List.set_cons_succ]
    refine lins_fn (some 12) 53 #[] #[] _ (start256_any _) rfl rfl rfl rfl Try.func53 (by kernel_rfl) (by kernel_rfl) (by go_simp) ?_
    rintro e w2 ⟨rfl, hb2⟩
    replace hbox := (hb2.cell (p := ⟨x, 0, none⟩) hlt).trans hbox
    replace hrow := World.rowIs.of_block hrow (hb2.block _ hrow.lt)
    replace hlt := Nat.lt_of_lt_of_le hlt hb2.size
    replace hg := Tch.grown hg (Tch.of_below hb2 (x := x) (y := y)) hx0
    replace HB := Lib.hid (HB.out.touched (Tch.of_below hb2 (x := x) (y := y)) hax hy)
    refine ⟨_, rfl, fun c w' => c = 4 → w'.cell? ⟨x, 0, none⟩ = some (.pointer (some ⟨y, 0, none⟩)), fun c hc => ⟨fun _ => hbox, fun w3 h3 => h3⟩, ?_⟩
    simp only [Act.put, List.setIfInBounds_toArray, List.set_cons_zero, List.set_cons_succ]
    refine lins_read 13 (Op.nilCheck (Operand.tmp 11)) 0 _ rfl rfl rfl rfl rfl (fun w0 hw0 => by unfold mkOp; go_simp; all_goals (with_reducible rfl)) ?_
    simp only [Act.put, List.setIfInBounds_toArray, List.set_cons_zero, List.set_cons_succ]
    refine lins_read 14 (Op.fieldAddr 83 (Operand.tmp 13) 0) 0 _ rfl rfl rfl rfl rfl (fun w0 hw0 => by unfold mkOp; go_simp; all_goals (with_reducible rfl)) ?_
    simp only [Act.put, List.setIfInBounds_toArray, List.set_cons_zero, List.set_cons_succ]
    refine lins_store_arr 75 (.tmp 14) (.tmp 12) rfl rfl rfl rfl hrow rfl rfl arr8_32 (by omega) (fun _ _ => rfl) ?_
    intro w3 hr3 hg3 hs3
    refine ⟨fun _ _ => True, fun c hc => (by cases hc), ?_⟩
    try simp only [Act.put, List.setIfInBounds_toArray, List.set_cons_zero, List.set_cons_succ]
    refine lins_end ?_
    have hrow4 : w3.rowIs y 83 73 (hashF k256.first blk ([] : List UInt8).length) := hr3.congr fun i hi => putN_first s blk _ i hi
    have hD4 : Dig k256 [] k256.first blk := dig_nil blk
    replace hbox : w3.cell? ⟨x, 0, none⟩ = some (.pointer (some ⟨y, 0, none⟩)) := (World.cell?_of_block (w := w2) (hg3.block _ hlt (fun e => hne (Option.some.inj e)))).trans hbox
    replace hlt : x < w3.heap.size := by omega
    replace hg := Tch.grown hg (Tch.right (x := x) hg3) hx0
    have hB4 : Hid (Bs w3 vb l) := HB.out.touched (Tch.right (x := x) hg3) hax hy
    clear hr3 hg3 hb2 hrow HB hD
    go_wp2
    generalize w3 = w4 at *
    generalize k256.first = s4 at *
    generalize blk = blk4 at *
  rotate_left
  focus
    have hmI : ¬ (m.length : Int) = 0 := by omega
    have hD4 := hD (fun h => hm (by rw [h]; rfl))
    clear hD
    go_wp2
    generalize w.alloc (.cells #[.pointer (some ⟨y, 0, none⟩)] 61) = w4 at *
    generalize hxe : w.heap.size = x at *
    have hx0 : w.heap.size ≤ x := by omega
    have hrow4 := hrow
    have hB4 := HB
    clear hrow hsz HB
    generalize s = s4 at *
    generalize blk = blk4 at *
  rotate_left
  all_goals
    have hsz4 : w4.drew.cell? ⟨y, 72, none⟩ = some (.int .u64 (_ : Int)) := hrow4.cell (i := 72) (by omega)
    refine wp_region_lins [(0, some [14]), (1, some [14]), (2, some [14]), (3, some [14]), (4, some [11, 14]), (5, some [14]), (6, some [14]), (7, some [14]), (8, some [11, 14]), (9, some [11, 14]), (10, some [11, 14]), (11, none), (12, some []), (13, some [14]), (14, none)] (fun c w' => (c = 11 → w' = w4.drew) ∧ (c = 14 → w'.cell? ⟨x, 0, none⟩ = some (.pointer (some ⟨y, 0, none⟩)))) (by kernel_rfl) (by kernel_rfl) (by decide) (by kernel_rfl) (fun d _ _ _ _ h => by cases d <;> exact h) (fun c hc => ⟨fun _ => rfl, fun _ => hbox⟩) ?_
    refine lins_read 15 (Op.load 61 (Operand.tmp 2)) 61 (.pointer (some ⟨y, 0, none⟩)) rfl rfl rfl rfl rfl (fun w0 hw0 => by exact exec_load_cell _ _ _ _ rfl (by kernel_rfl) ((hw0 14 (by simp)).2 rfl)) ?_
    simp only [Act.put, List.setIfInBounds_toArray, List.set_cons_zero, List.set_cons_succ]
    refine lins_read 16 (Op.load 61 (Operand.tmp 2)) 61 (.pointer (some ⟨y, 0, none⟩)) rfl rfl rfl rfl rfl (fun w0 hw0 => by exact exec_load_cell _ _ _ _ rfl (by kernel_rfl) ((hw0 14 (by simp)).2 rfl)) ?_
    simp only [Act.put, List.setIfInBounds_toArray, List.set_cons_zero, List.set_cons_succ]
    refine lins_read 17 (Op.nilCheck (Operand.tmp 16)) 0 _ rfl rfl rfl rfl rfl (fun w0 hw0 => by unfold mkOp; go_simp; all_goals (with_reducible rfl)) ?_
    simp only [Act.put, List.setIfInBounds_toArray, List.set_cons_zero, List.set_cons_succ]
    refine lins_read 18 (Op.fieldAddr 83 (Operand.tmp 17) 1) 0 _ rfl rfl rfl rfl rfl (fun w0 hw0 => by unfold mkOp; go_simp; all_goals (with_reducible rfl)) ?_
    simp only [Act.put, List.setIfInBounds_toArray, List.set_cons_zero, List.set_cons_succ]
    refine lins_read 19 (Op.slice 58 (Operand.tmp 18) none none none) 22 (.slice (some ⟨y, 8, none⟩) 64 64) rfl rfl rfl rfl rfl (fun w0 hw0 => by exact exec_sliceAll _ _ _ _ _ Try.underlying58 (by kernel_rfl) rfl (by omega)) ?_
    simp only [Act.put, List.setIfInBounds_toArray, List.set_cons_zero, List.set_cons_succ]
    refine lins_read 20 (Op.load 61 (Operand.tmp 2)) 61 (.pointer (some ⟨y, 0, none⟩)) rfl rfl rfl rfl rfl (fun w0 hw0 => by exact exec_load_cell _ _ _ _ rfl (by kernel_rfl) ((hw0 14 (by simp)).2 rfl)) ?_
    simp only [Act.put, List.setIfInBounds_toArray, List.set_cons_zero, List.set_cons_succ]
    refine lins_read 21 (Op.nilCheck (Operand.tmp 20)) 0 _ rfl rfl rfl rfl rfl (fun w0 hw0 => by unfold mkOp; go_simp; all_goals (with_reducible rfl)) ?_
    simp only [Act.put, List.setIfInBounds_toArray, List.set_cons_zero, List.set_cons_succ]
    refine lins_read 22 (Op.fieldAddr 83 (Operand.tmp 21) 2) 0 _ rfl rfl rfl rfl rfl (fun w0 hw0 => by unfold mkOp; go_simp; all_goals (with_reducible rfl)) ?_
    simp only [Act.put, List.setIfInBounds_toArray, List.set_cons_zero, List.set_cons_succ]
    refine lins_read 23 (Op.load 42 (Operand.tmp 22)) 42 _ rfl rfl rfl rfl rfl (fun w0 hw0 => by obtain rfl := (hw0 11 (by simp)).1 rfl; exact exec_load_cell _ _ _ _ rfl (by kernel_rfl) hsz4) ?_
    simp only [Act.put, List.setIfInBounds_toArray, List.set_cons_zero, List.set_cons_succ]
    refine lins_read 24 (Op.move (Operand.tmp 1)) 22 _ rfl rfl rfl rfl rfl (fun w0 hw0 => by unfold mkOp; go_simp; all_goals (with_reducible rfl)) ?_
    simp only [Act.put, List.setIfInBounds_toArray, List.set_cons_zero, List.set_cons_succ]
    refine lins_read 25 (Op.makeFunc (Fn.func 55) #[] #[Operand.tmp 2]) 1 (.func (.func 55) #[] #[.pointer (some ⟨x, 0, none⟩)]) rfl rfl rfl rfl rfl (fun w0 hw0 => by exact exec_makeFunc1 _ _ _ _ rfl) ?_
    simp only [Act.put, List.setIfInBounds_toArray, List.set_cons_zero, List.set_cons_succ]
    refine lins_fn (some 26) 54 #[Operand.tmp 19, Operand.tmp 23, Operand.tmp 24, Operand.tmp 25] #[22, 42, 22, 1] _ (cut256_any x y _ _ _ _ l vb _ ⟨hbox, hlt, hne, hrow4.drew⟩ hD4 (hB4.out.touched (Tch.refl x y w4).drew hax hy) hax hy (by simpa using hlen)) rfl rfl rfl rfl Try.func54 (by kernel_rfl) (by kernel_rfl) (by go_simp) ?_
    rintro e w5 ⟨rfl, s5, blk5, hM5, hD5, ht5⟩
    refine ⟨_, rfl, fun c w' => c = 14 → w'.cell? ⟨x, 0, none⟩ = some (.pointer (some ⟨y, 0, none⟩)), fun c hc => ⟨fun _ => hM5.box, fun w6 h6 => ⟨fun h9 => by subst h9; cases hc <;> contradiction, h6⟩⟩, ?_⟩
    simp only [Act.put, List.setIfInBounds_toArray, List.set_cons_zero, List.set_cons_succ]
    refine lins_read 27 (Op.nilCheck (Operand.tmp 15)) 0 _ rfl rfl rfl rfl rfl (fun w0 hw0 => by unfold mkOp; go_simp; all_goals (with_reducible rfl)) ?_
    simp only [Act.put, List.setIfInBounds_toArray, List.set_cons_zero, List.set_cons_succ]
    refine lins_read 28 (Op.fieldAddr 83 (Operand.tmp 27) 2) 0 _ rfl rfl rfl rfl rfl (fun w0 hw0 => by unfold mkOp; go_simp; all_goals (with_reducible rfl)) ?_
    simp only [Act.put, List.setIfInBounds_toArray, List.set_cons_zero, List.set_cons_succ]
    refine lins_store_cell 42 (.tmp 28) (.tmp 26) rfl rfl rfl rfl hM5.row rfl rfl (by kernel_rfl) rfl rfl (by omega) ?_
    refine ⟨fun _ _ => True, fun c hc => (by cases hc), ?_⟩
    try simp only [Act.put, List.setIfInBounds_toArray, List.set_cons_zero, List.set_cons_succ]
    refine lins_end ?_
    go_wp2
    go_end0
    refine ⟨rfl, ⟨s5, blk5, (hM5.row.set 72 _).congr fun i hi => ?_, fun _ => hD5⟩, ?_⟩
    · rw [List.length_append]; exact hash_size s5 blk5 _ _ i hi
    · exact Tch.grown (Tch.grown hg ((Tch.refl x y w4).drew.trans ht5) hx0) (Tch.right (grownBy_set w5 y 72 _)) hx0
end Go.Proofs.Ytclbfbkbmiijnaa

/- Rows one behind the other: flat.Cat, missivealike.Cat. -/
set_option linter.unusedSimpArgs false
set_option linter.unusedVariables false
namespace Go.Proofs.Ytclbfbkbmiijnaa
open Go.RowKit Go.Deep

/-- The first j rows, one behind the other. -/
def catTo (L : List (List UInt8)) (j : Nat) : List UInt8 := (L.take j).flatten
theorem catTo_succ (L : List (List UInt8)) (j : Nat) (h : j < L.length) : catTo L (j + 1) = catTo L j ++ L[j] := by
  unfold catTo
  rw [List.take_succ_eq_append_getElem h, List.flatten_append]
  simp
theorem catTo_all (L : List (List UInt8)) (j : Nat) (h : L.length ≤ j) : catTo L j = L.flatten := by
  unfold catTo; rw [List.take_of_length_le h]
theorem catTo_le (L : List (List UInt8)) (j : Nat) : (catTo L j).length ≤ L.flatten.length := by
  have : L.flatten = catTo L j ++ (L.drop j).flatten := by unfold catTo; rw [← List.flatten_append, List.take_append_drop]
  rw [this, List.length_append]; omega

set_option maxHeartbeats 800000 in
theorem cat_any (v : Value) (L : List (List UInt8)) (w : World) (hv : Bss w v L) (hlen : L.flatten.length ≤ 2147483647) :
    Calls Try.prog 27 #[v] w fun e w' => ∃ v', e = .returned v' ∧ Owns w' w.heap.size v' L.flatten ∧ Below w.heap.size w w' := by
  have HV := Lib.hid hv
  obtain ⟨a, cap, rfl, h1, h2, h3, h4⟩ := hv
  clear h3 h4
  unfold maxLen at h2
  obtain ⟨i0, hi, hz0, hz1, hz2⟩ := info_parts Try.info5
  go_enter Try.func27, Try.ntmps27
  go_wp2
  go_loop [3, 11] (fun s i => ∃ j : Nat, j ≤ L.length ∧ i = .int .i64 j ∧ s = .int .i64 ((catTo L j).length : Nat)) (fun _ i => L.length - (intOf i).toNat)
  case atStart => exact ⟨0, Nat.zero_le _, rfl, rfl⟩
  case round =>
    obtain ⟨j, hj, rfl, rfl⟩ := hrel
    by_cases hlt : j < L.length
    · have hle := catTo_le L (j + 1)
      have hsucc := congrArg List.length (catTo_succ L j hlt)
      rw [List.length_append] at hsucc
      have hle2 : (catTo L j).length + L[j].length ≤ 2147483647 := by omega
      have HS := Lib.hid hsucc
      clear hsucc hle
      obtain ⟨b, off, cap', he, _, _, _, hc⟩ := HV.out.open_cons (by omega)
      cases he
      obtain ⟨u, hcj, hu⟩ := hc j hlt
      clear hc
      obtain ⟨au, cu, rfl, _, _, _, _⟩ := hu
      go_wp2
      go_round
      case rel => exact ⟨j + 1, by omega, by go_num, by rw [HS.out]; go_num⟩
      case measure => simp [intOf]; omega
    · obtain rfl : j = L.length := by omega
      have hall := catTo_all L L.length (Nat.le_refl _)
      rw [hall]
      clear hall
      generalize hn : L.flatten.length = n at *
      have HN := Lib.hid hn
      clear hn
      go_wp2_with (refine wpList_make_own _ rfl _ _ 22 rfl w.heap.size 5 i0 (.int .u8 0) 1 Try.underlying22 hi hz0 hz1 .i64 .i64 _ n rfl rfl rfl (by rw [hz2]; omega) (by unfold maxLen; omega) (Nat.le_refl _) ?_; intro w1 hown1 hgrow1)
      have hO : Owns w1 w.heap.size (.slice (some ⟨w.heap.size, 0, none⟩) 0 n) [] := hown1
      have hB1 : Below w.heap.size w w1 := (Below.refl _ _).grown hgrow1 (Nat.le_refl _) (fun k hk => by cases hk)
      clear hown1 hgrow1
      go_loopw [6, 24] (fun v i wr => ∃ j : Nat, j ≤ L.length ∧ i = .int .i64 j ∧ Owns wr w.heap.size v (catTo L j) ∧ Below w.heap.size w wr) (fun _ i _ => L.length - (intOf i).toNat)
      case atStart => exact ⟨0, Nat.zero_le _, rfl, hO, hB1⟩
      case round =>
        obtain ⟨j, hj, rfl, hown, hbel⟩ := hrel
        clear hO hB1
        by_cases hlt : j < L.length
        · have hsum : (catTo L j).length + L[j].length ≤ n := by
            have := catTo_le L (j + 1)
            rw [catTo_succ L j hlt, List.length_append] at this
            have := HN.out
            omega
          obtain ⟨b, off, cap', he, _, _, hbl, hc⟩ := HV.out.open_cons (by omega)
          cases he
          obtain ⟨u, hcj, hu⟩ := hc j hlt
          clear hc
          have hcr : wr.cell? ⟨b, off + j, none⟩ = some u := (hbel.cell (by exact hbl)).trans hcj
          have hur : Bs wr u L[j] := hu.below hbel (Nat.le_refl _)
          have HU := Lib.hid hur
          obtain ⟨au, cu, rfl, _, _, _, _⟩ := hu
          clear hur
          go_wp2_with (refine wpList_app rfl _ _ rfl w.heap.size _ _ (catTo L j) L[j] hown HU.out rfl rfl (by omega) (by have := hbel.size; omega) ?_; intro v2 w2 hown2 hgrow2)
          have hown3 : Owns w2 w.heap.size v2 (catTo L (j + 1)) := by rw [catTo_succ L j hlt]; exact hown2
          have hbel3 : Below w.heap.size w w2 := hbel.grown hgrow2 hbel.size (Owns.block hown)
          clear hown2 hgrow2 hown hbel hcr HU hsum
          go_wp2
          go_roundw
          case rel => exact ⟨j + 1, by omega, by go_num, hown3, hbel3⟩
          case measure => simp [intOf]; omega
        · obtain rfl : j = L.length := by omega
          go_wp2
          go_ret
          exact ⟨_, rfl, by rw [← catTo_all L L.length (Nat.le_refl _)]; exact hown, hbel⟩
end Go.Proofs.Ytclbfbkbmiijnaa

/- Hash256: Copy and Sum; Sum256. -/
set_option linter.unusedSimpArgs false
set_option linter.unusedVariables false
namespace Go.Proofs.Ytclbfbkbmiijnaa
open Go.RowKit Go.Deep

def zero8 : S8 32 := ⟨0, 0, 0, 0, 0, 0, 0, 0⟩
theorem zero73 : (Try.prog.info? 83).map (fun i => i.zero) = some (some (.agg (arrOf 73 (hashF zero8 (fun _ => 0) 0)))) := by kernel_rfl
theorem arr73 : IsArr Try.prog 83 73 := ⟨by kernel_rfl, by kernel_rfl⟩
theorem hashF_one (s : S8 32) (blk : Nat → UInt8) (z : Nat) (j : Nat) (_h : j < 73) : (hashF s blk z j).oneCell' = true := by
  unfold hashF
  split
  · rfl
  · split <;> rfl
/-- A new one. -/
theorem HashAt.new (w : World) : HashAt (w.alloc (.cells (arrOf 73 (hashF zero8 (fun _ => 0) 0)) 83)) w.heap.size [] :=
  ⟨zero8, fun _ => 0, rowIs_arr w 73 _ _, fun h => absurd rfl h⟩
theorem HashAt.below {w w' : World} {y B : Nat} {m : List UInt8} (h : HashAt w y m) (hb : Below B w w') (hB : w.heap.size ≤ B) : HashAt w' y m := h.of_block (hb.block _ (Nat.lt_of_lt_of_le h.lt hB))

theorem out_length {n : Nat} (k : Kind n) (s : S8 n) (b : Nat) (hb : k.bytes = b) : ∀ j, (k.out s j).length = b * j
  | 0 => rfl
  | j + 1 => by
    show (k.out s j ++ bigB (s.at j).toNat k.bytes).length = _
    rw [List.length_append, out_length k s b hb j, bigB_length, hb, Nat.mul_succ]
/-- A slice of the call's own stands behind calls that make no more than new blocks. -/
theorem Owns.below {w w' : World} {base : Nat} {v : Value} {l : List UInt8} (h : Owns w base v l) (hb : Below w.heap.size w w') : Owns w' base v l := by
  obtain ⟨h1, h2⟩ := h
  refine ⟨h1, ?_⟩
  rcases h2 with h2 | ⟨g, cap, cur, rfl, hbg, hg, h3⟩
  · exact .inl h2
  · exact .inr ⟨g, cap, cur, rfl, hbg, (hb.block g (Array.getElem?_eq_some_iff.1 hg).1).trans hg, h3⟩

set_option maxHeartbeats 1600000 in
theorem hcopy_any (y : Nat) (m : List UInt8) (w : World) (hH : HashAt w y m) :
    Calls Try.prog 57 #[.pointer (some ⟨y, 0, none⟩)] w fun e w' => e = .returned (.pointer (some ⟨w.heap.size, 0, none⟩)) ∧ HashAt w' w.heap.size m ∧ Below w.heap.size w w' := by
  obtain ⟨s, blk, hrow, hD⟩ := hH
  have hnew := rowIs_arr w 73 (hashF zero8 (fun _ => 0) 0) 83
  go_enter Try.func57, Try.ntmps57
  go_wp2_with (first
    | refine wpList_load_arr rfl 83 (.tmp 7) rfl 73 arr73 hrow rfl (by omega) ?_
    | refine wpList_alloc_arr rfl 83 rfl (arrOf 73 (hashF zero8 (fun _ => 0) 0)) zero73 ?_
    | (refine wpList_store_arr rfl 83 (.tmp 3) (.tmp 8) rfl 73 arr73 hnew rfl rfl (by omega) (fun j hj => hashF_one s blk m.length _ (by omega)) ?_; intro w3 hr3 hg3 hs3))
  go_ret
  refine ⟨rfl, ⟨s, blk, hr3.congr fun i hi => ?_, hD⟩, ((Below.refl _ _).alloc (Nat.le_refl _) _).grown hg3 (by simp) (by intro k hk; cases hk; omega)⟩
  unfold putN
  rw [if_pos (by omega)]
  simp only [Nat.sub_zero, Nat.zero_add]

set_option maxHeartbeats 4000000 in
theorem hsumO_any (y : Nat) (m : List UInt8) (w : World) (hH : HashAt w y m) (hlen : m.length < 2 ^ 59) :
    Calls Try.prog 41 #[.pointer (some ⟨y, 0, none⟩)] w fun e w' => ∃ v, e = .returned v ∧ Owns w' w.heap.size v (k256.sum m) ∧ Below w.heap.size w w' := by
  have hE := endOf_length m.length 64 (by omega)
  have hE2 := (endRoom_ge m.length 64 (by omega)).2
  go_enter Try.func41, Try.ntmps41
  go_wp2_with (first
    | (go_at_call 57; refine (hcopy_any y m _ hH).mono ?_; rintro e w1 ⟨rfl, hC1, hb1⟩
       have hsz1 : w1.cell? ⟨y, 72, none⟩ = some (.int .u64 (m.length : Int)) := by
         obtain ⟨s, blk, hrow, hD⟩ := hH.below hb1 (Nat.le_refl _)
         exact hrow.cell (i := 72) (by omega))
    | (go_at_call 58; refine (ending64_any m.length _ (by omega)).mono ?_; rintro e w2 ⟨v2, rfl, hB2, hb2, c2, hv2e⟩
       have hC2 := hC1.below hb2 (Nat.le_refl _)
       have hv2 : Away v2 w.heap.size := fun x n c he _ => by
         rw [hv2e] at he
         cases he
         show w1.heap.size ≠ w.heap.size
         have := hC1.lt
         omega
       have hb02 := hb1.trans (hb2.mono hb1.size)
       clear hv2e hsz1)
    | (go_at_call 40; refine (hadd_any w.heap.size m _ _ _ hC2 hB2 hv2 (by omega)).mono ?_; rintro e w3 ⟨rfl, hC3, hg3⟩
       have hb03 := hb02.grown hg3 hb02.size (by intro k hk; cases hk; omega)
       obtain ⟨s, blk, hr3, hD3⟩ := hC3
       replace hD3 := hD3 (by intro h; have h1 := congrArg List.length h; have h2 := (endRoom_ge m.length 64 (by omega)).1; rw [List.length_append, hE] at h1; simp only [List.length_nil] at h1; omega)
       have hsum : k256.out s 8 = k256.sum m := Dig.sum hD3)
    | (refine wpList_load_arr rfl 75 (.tmp 20) rfl 8 arr8_32 hr3 rfl (by omega) ?_
       rw [hash_state]))
  have HS := Lib.hid hsum
  clear hsum hb1 hb2 hb02 hg3 hC1 hC2 hB2 hv2 hD3 hr3 hE hE2
  go_loopw [4, 22] (fun out i wr => ∃ j : Nat, j ≤ 8 ∧ i = .int .i64 j ∧ Owns wr w.heap.size out (k256.out s j) ∧ Below w.heap.size w wr) (fun _ i _ => 8 - (intOf i).toNat)
  case atStart => exact ⟨0, Nat.zero_le _, rfl, Owns.nil _ _, hb03⟩
  case round =>
    clear hb03
    obtain ⟨j, hj, rfl, hown, hbel⟩ := hrel
    by_cases hlt : j < 8
    · have hw : w32 s.at j = .int .u32 ((s.at j).toNat : Int) := rfl
      have hol : (k256.out s j).length = 4 * j := out_length k256 s 4 rfl j
      go_wp2_with (first
        | refine wpList_index_arr rfl 75 74 (.tmp 21) (.tmp 22) rfl 8 Try.underlying75 _ Try.underlying74 rfl (by kernel_rfl) rfl rfl hlt ?_
        | (go_at_call 59; refine (put32_any (s.at j).toNat _ (s.at j).isLt).mono ?_; rintro e w5 ⟨v5, rfl, hB5, hb5⟩
           have hown5 : Owns w5 w.heap.size _ (k256.out s j) := hown.below hb5
           have hbel5 := hbel.trans (hb5.mono hbel.size)
           clear hb5)
        | (refine wpList_app rfl _ _ rfl w.heap.size _ _ (k256.out s j) _ hown5 hB5 rfl rfl (by rw [hol, bigB_length]; omega) hbel5.size ?_; intro v6 w6 hown6 hgrow6))
      have hbel6 : Below w.heap.size w w6 := hbel5.grown hgrow6 hbel5.size (Owns.block hown5)
      clear hown5 hgrow6 hB5
      go_wp2
      go_roundw
      case rel => exact ⟨j + 1, by omega, by go_num, hown6, hbel6⟩
      case measure => simp [intOf]; omega
    · obtain rfl : j = 8 := by omega
      go_wp2
      go_ret
      exact ⟨_, rfl, by rw [← HS.out]; exact hown, hbel⟩
theorem hsum_any (y : Nat) (m : List UInt8) (w : World) (hH : HashAt w y m) (hlen : m.length < 2 ^ 59) :
    Calls Try.prog 41 #[.pointer (some ⟨y, 0, none⟩)] w fun e w' => ∃ v, e = .returned v ∧ Bs w' v (k256.sum m) ∧ Below w.heap.size w w' :=
  (hsumO_any y m w hH hlen).mono fun e w' ⟨v, h1, h2, h3⟩ => ⟨v, h1, h2.bs, h3⟩
end Go.Proofs.Ytclbfbkbmiijnaa

/- Sum256 and Sum512 of rows; the Hash256 that is nil. -/
set_option linter.unusedSimpArgs false
set_option linter.unusedVariables false
namespace Go.Proofs.Ytclbfbkbmiijnaa
open Go.RowKit Go.Deep

set_option maxHeartbeats 1600000 in
theorem sum256_any (v : Value) (L : List (List UInt8)) (w : World) (hv : Bss w v L) (hlen : L.flatten.length < 2 ^ 59) :
    Calls Try.prog 38 #[v] w fun e w' => ∃ v', e = .returned v' ∧ Bs w' v' (k256.sum L.flatten) ∧ Below w.heap.size w w' := by
  have HV := Lib.hid hv
  obtain ⟨a, cap, rfl, h1, h2, h3, h4⟩ := hv
  clear h3 h4
  unfold maxLen at h2
  have hnew := HashAt.new w
  have hb0 : Below w.heap.size w (w.alloc (.cells (arrOf 73 (hashF zero8 (fun _ => 0) 0)) 83)) := (Below.refl _ _).alloc (Nat.le_refl _) _
  go_enter Try.func38, Try.ntmps38
  go_wp2_with (refine wpList_alloc_arr rfl 83 rfl (arrOf 73 (hashF zero8 (fun _ => 0) 0)) zero73 ?_)
  go_loopw [8] (fun i wr => ∃ j : Nat, j ≤ L.length ∧ i = .int .i64 j ∧ HashAt wr w.heap.size (catTo L j) ∧ Below w.heap.size w wr) (fun i _ => L.length - (intOf i).toNat)
  case atStart => exact ⟨0, Nat.zero_le _, rfl, hnew, hb0⟩
  case round =>
    clear hnew hb0
    obtain ⟨j, hj, rfl, hH, hbel⟩ := hrel
    by_cases hlt : j < L.length
    · have hsum : (catTo L j).length + L[j].length ≤ L.flatten.length := by
        have := catTo_le L (j + 1)
        rw [catTo_succ L j hlt, List.length_append] at this
        exact this
      obtain ⟨b, off, cap', he, _, _, hbl, hc⟩ := HV.out.open_cons (by omega)
      cases he
      obtain ⟨u, hcj, hu⟩ := hc j hlt
      clear hc
      have hcr : wr.cell? ⟨b, off + j, none⟩ = some u := (hbel.cell (by exact hbl)).trans hcj
      have HU := Lib.hid (hu.below hbel (Nat.le_refl _))
      have HA : Away u w.heap.size := hu.away (Nat.le_refl _)
      clear hu
      go_wp2_with (go_at_call 40; refine (hadd_any w.heap.size _ _ _ _ hH HU.out HA (by omega)).mono ?_; rintro e w2 ⟨rfl, hH2, hg2⟩)
      rw [← catTo_succ L j hlt] at hH2
      have hbel2 : Below w.heap.size w w2 := hbel.grown hg2 hbel.size (by intro k hk; cases hk; omega)
      clear hH hbel hcr HU HA hg2
      go_wp2
      go_roundw
      case rel => exact ⟨j + 1, by omega, by go_num, hH2, hbel2⟩
      case measure => simp [intOf]; omega
    · obtain rfl : j = L.length := by omega
      rw [catTo_all L L.length (Nat.le_refl _)] at hH
      go_wp2_with (go_at_call 41; refine (hsum_any w.heap.size _ _ hH hlen).mono ?_; rintro e w2 ⟨v2, rfl, hB2, hb2⟩)
      go_wp2
      go_ret
      exact ⟨_, rfl, hB2, hbel.trans (hb2.mono hbel.size)⟩
end Go.Proofs.Ytclbfbkbmiijnaa

/- HMAC and HKDF in words: what both the program's and the document's are walked to; no world in it. -/
set_option linter.unusedSimpArgs false
set_option linter.unusedVariables false
namespace Go.Proofs.Ytclbfbkbmiijnaa
open Go.RowKit Go.Deep

theorem sum256_length (m : List UInt8) : (k256.sum m).length = 32 := out_length k256 _ 4 rfl 8

/-- The key that stands in a block: a longer one is its sum. -/
def shortK (key : List UInt8) : List UInt8 := if 64 < key.length then k256.sum key else key
theorem shortK_le (key : List UInt8) : (shortK key).length ≤ 64 := by
  unfold shortK
  split
  · rw [sum256_length]; omega
  · omega
/-- With noughts up to so many bytes; what is too long is cut. -/
def fillB (l : List UInt8) (n : Nat) : List UInt8 := l.take n ++ List.replicate (n - l.length) 0
theorem fillB_length (l : List UInt8) (n : Nat) : (fillB l n).length = n := by simp [fillB]; omega
theorem fillB_get (l : List UInt8) (n i : Nat) (h : i < n) : (fillB l n).getD i 0 = l.getD i 0 := by
  unfold fillB
  rw [List.getD_eq_getElem?_getD, List.getD_eq_getElem?_getD, List.getElem?_append]
  by_cases hl : i < l.length
  · rw [if_pos (by simp; omega)]
    simp [h]
  · rw [if_neg (by simp; omega)]
    rw [List.getElem?_eq_none (by omega : l.length ≤ i), List.getElem?_replicate]
    split <;> rfl
def padK (key : List UInt8) : List UInt8 := fillB (shortK key) 64
theorem padK_length (key : List UInt8) : (padK key).length = 64 := fillB_length _ _
def xorM (m : UInt8) (l : List UInt8) : List UInt8 := l.map (· ^^^ m)
theorem xorM_length (m : UInt8) (l : List UInt8) : (xorM m l).length = l.length := by simp [xorM]
/-- HMAC with SHA-256. -/
def hmac (key l : List UInt8) : List UInt8 := k256.sum (xorM 0x5c (padK key) ++ k256.sum (xorM 0x36 (padK key) ++ l))
theorem hmac_length (key l : List UInt8) : (hmac key l).length = 32 := sum256_length _
/-- HKDF's sums and what they make one behind the other. -/
def hkN (prk info : List UInt8) : Nat → List UInt8
  | 0 => []
  | i + 1 => hmac prk (hkN prk info i ++ info ++ [UInt8.ofNat (i + 1)])
def hkTo (prk info : List UInt8) : Nat → List UInt8
  | 0 => []
  | i + 1 => hkTo prk info i ++ hkN prk info (i + 1)
theorem hkN_length (prk info : List UInt8) (i : Nat) : (hkN prk info (i + 1)).length = 32 := hmac_length _ _
theorem hkN_le (prk info : List UInt8) (i : Nat) : (hkN prk info i).length ≤ 32 := by
  cases i with
  | zero => simp [hkN]
  | succ i => rw [hkN_length]; omega
theorem hkTo_length (prk info : List UInt8) : ∀ i, (hkTo prk info i).length = 32 * i
  | 0 => rfl
  | i + 1 => by
    show (hkTo prk info i ++ hkN prk info (i + 1)).length = _
    rw [List.length_append, hkTo_length prk info i, hkN_length]; omega
theorem hkTo_take (prk info : List UInt8) (i n : Nat) : (hkTo prk info (i + 1)).take n = (hkTo prk info i).take n ++ (hkN prk info (i + 1)).take (n - 32 * i) := by
  show (hkTo prk info i ++ hkN prk info (i + 1)).take n = _
  rw [List.take_append, hkTo_length]
/-- Expand. -/
def hkdfL (prk info : List UInt8) (n : Nat) : List UInt8 := (hkTo prk info ((n + 31) / 32)).take n
theorem hkdfL_length (prk info : List UInt8) (n : Nat) : (hkdfL prk info n).length = n := by
  unfold hkdfL
  rw [List.length_take, hkTo_length]; omega
def expandL (prk info : List UInt8) (n : Int) : List UInt8 := if n < 1 ∨ 8160 < n then [] else hkdfL prk info n.toNat
def deriveL (salt ikm info : List UInt8) (n : Int) : List UInt8 := expandL (hmac salt ikm) info n
theorem expandL_in (prk info : List UInt8) (n : Int) (h : 1 ≤ n ∧ n ≤ 8160) : expandL prk info n = hkdfL prk info n.toNat := by unfold expandL; rw [if_neg (by omega)]
theorem expandL_out (prk info : List UInt8) (n : Int) (h : n < 1 ∨ 8160 < n) : expandL prk info n = [] := by unfold expandL; rw [if_pos h]
theorem expandL_length (prk info : List UInt8) (n : Int) (h : 1 ≤ n ∧ n ≤ 8160) : (expandL prk info n).length = n.toNat := by rw [expandL_in _ _ _ h, hkdfL_length]
end Go.Proofs.Ytclbfbkbmiijnaa

/- The program's HMAC: begun, NewKey, Key.Mac, Mac, Extract. -/
set_option linter.unusedSimpArgs false
set_option linter.unusedVariables false
namespace Go.Proofs.Ytclbfbkbmiijnaa
open Go.RowKit Go.Deep

theorem zero64b : (Try.prog.info? 58).map (fun i => i.zero) = some (some (.agg (arrOf 64 fun _ => .int .u8 0))) := by kernel_rfl
theorem zeroKey : (Try.prog.info? 60).map (fun i => i.zero) = some (some (.agg (arrOf 64 fun _ => .int .u8 0))) := by kernel_rfl

/-- At block y lies the key. -/
def KeyAt (w : World) (y : Nat) (key : List UInt8) : Prop := w.rowIs y 60 64 (bytesAt (padK key))
theorem KeyAt.below {w w' : World} {y B : Nat} {key : List UInt8} (h : KeyAt w y key) (hb : Below B w w') (hB : w.heap.size ≤ B) : KeyAt w' y key := World.rowIs.of_block h (hb.block _ (Nat.lt_of_lt_of_le (World.rowIs.lt h) hB))

set_option maxHeartbeats 2000000 in
theorem begun_any (y : Nat) (key : List UInt8) (mk : UInt8) (w : World) (hK : KeyAt w y key) :
    Calls Try.prog 39 #[.pointer (some ⟨y, 0, none⟩), .int .u8 (mk.toNat : Int)] w fun e w' => ∃ y', e = .returned (.pointer (some ⟨y', 0, none⟩)) ∧ w.heap.size ≤ y' ∧ HashAt w' y' (xorM mk (padK key)) ∧ Below w.heap.size w w' := by
  have hK0 : w.rowIs y 60 64 (bytesAt (padK key)) := hK
  have hpl := padK_length key
  obtain ⟨p, hp⟩ : ∃ p, p = padK key := ⟨_, rfl⟩
  rw [← hp] at hK0 hpl
  have HP := Lib.hid hp
  have hnew := rowIs_arr w 64 (fun _ => .int .u8 0) 58
  clear hK hp
  go_enter Try.func39, Try.ntmps39
  go_wp2_with (first
    | refine wpList_load_arr rfl 58 (.tmp 10) rfl 64 arrB_32 hK0 rfl (by omega) ?_
    | refine wpList_alloc_arr rfl 58 rfl (arrOf 64 fun _ => .int .u8 0) zero64b ?_
    | (refine wpList_store_arr rfl 58 (.tmp 5) (.tmp 11) rfl 64 arrB_32 hnew rfl rfl (by omega) (fun _ _ => rfl) ?_; intro w1 hr1 hg1 hs1))
  have hb1 : Below w.heap.size w w1 := ((Below.refl _ _).alloc (Nat.le_refl _) _).grown hg1 (by simp) (by intro k hk; cases hk; omega)
  replace hr1 : w1.rowIs w.heap.size 58 64 (fun i => if i < 0 then .int .u8 ((p.getD i 0 ^^^ mk).toNat : Int) else .int .u8 ((p.getD i 0).toNat : Int)) := hr1.congr fun i hi => by
    unfold putN bytesAt
    rw [if_pos ⟨by omega, by omega⟩, if_neg (by omega)]
    simp
  clear hK0 hnew hg1 hs1
  go_loopw [12] (fun i wr => ∃ j : Nat, j ≤ 64 ∧ i = .int .i64 j ∧ wr.rowIs w.heap.size 58 64 (fun i => if i < j then .int .u8 ((p.getD i 0 ^^^ mk).toNat : Int) else .int .u8 ((p.getD i 0).toNat : Int)) ∧ Below w.heap.size w wr) (fun i _ => 64 - (intOf i).toNat)
  case atStart => exact ⟨0, Nat.zero_le _, rfl, hr1, hb1⟩
  case round =>
    clear hr1 hb1
    obtain ⟨j, hj, rfl, hrow, hbel⟩ := hrel
    by_cases hlt : j < 64
    · have hcell := hrow.cell hlt
      rw [if_neg (Nat.lt_irrefl j)] at hcell
      have hfr := hrow.frozen j
      have hx := bits_xorB (p.getD j 0) mk
      have hj8 : (j : Int) < 64 := by omega
      generalize hq : p.getD j 0 = q at *
      have HQ := Lib.hid hq
      clear hq
      go_wp2
      go_roundw
      case rel =>
        refine ⟨j + 1, by omega, by go_num, (hrow.set j _).congr fun i hi => ?_, hbel.setCell (Nat.le_refl _) _⟩
        show (if i = j then _ else _) = _
        by_cases e : i = j
        · subst e
          rw [if_pos rfl, if_pos (by omega), HQ.out, UInt8.toNat_xor]
        · rw [if_neg e]
          by_cases h2 : i < j
          · rw [if_pos h2, if_pos (by omega)]
          · rw [if_neg h2, if_neg (by omega)]
      case measure => simp [intOf]; omega
    · obtain rfl : j = 64 := by omega
      have hB : Bs wr (.slice (some ⟨w.heap.size, 0, none⟩) 64 64) (xorM mk p) := by
        have h := Bs.of_rowIs hrow (xorM mk p) (by rw [xorM_length]; omega) (by unfold maxLen; omega) (fun i hi => by
          rw [xorM_length] at hi
          rw [if_pos (by omega)]
          simp [xorM, hi])
        rwa [xorM_length, hpl] at h
      have hlt0 := hrow.lt
      have HB := Lib.hid (hB.below ((Below.refl _ _).alloc (Nat.le_refl _) (.cells (arrOf 73 (hashF zero8 (fun _ => 0) 0)) 83)) (Nat.le_refl _))
      have hnewh := HashAt.new wr
      have hA : Away (.slice (some ⟨w.heap.size, 0, none⟩) 64 64) wr.heap.size := hB.away (Nat.le_refl _)
      have hb2 := hbel.alloc hbel.size (.cells (arrOf 73 (hashF zero8 (fun _ => 0) 0)) 83)
      have hsz := hbel.size
      have hxl : (xorM mk p).length = 64 := by rw [xorM_length, hpl]
      clear hrow hB
      go_wp2_with (first
        | refine wpList_alloc_arr rfl 83 rfl (arrOf 73 (hashF zero8 (fun _ => 0) 0)) zero73 ?_
        | refine wpList_op rfl (.slice 58 (.tmp 5) none none none) 22 (.slice (some ⟨w.heap.size, 0, none⟩) 64 64) rfl rfl (exec_sliceAll _ _ _ _ _ Try.underlying58 (by kernel_rfl) rfl (by omega)) ?_
        | (go_at_call 40; refine (hadd_any wr.heap.size [] _ _ _ hnewh HB.out hA (by rw [hxl]; decide)).mono ?_; rintro e w3 ⟨rfl, hH3, hg3⟩
           have hb3 : Below w.heap.size w w3 := hb2.grown hg3 hb2.size (by intro k hk; cases hk; omega)))
      go_wp2
      go_ret
      exact ⟨_, rfl, hsz, by rw [← HP.out]; exact hH3, hb3⟩

theorem copied_key (key : List UInt8) (i : Nat) (hi : i < 64) : putN (fun _ => .int .u8 0) 0 (Nat.min (shortK key).length 64) (bytesAt (shortK key)) i = bytesAt (padK key) i := by
  have hle := shortK_le key
  unfold putN bytesAt
  rw [show (padK key).getD i 0 = (shortK key).getD i 0 from fillB_get _ _ _ hi]
  have hmin : Nat.min (shortK key).length 64 = (shortK key).length := Nat.min_eq_left hle
  rw [hmin]
  by_cases e : i < (shortK key).length
  · rw [if_pos ⟨by omega, by omega⟩, Nat.sub_zero]
  · rw [if_neg (by omega), List.getD_eq_getElem?_getD, List.getElem?_eq_none (by omega)]
    rfl

set_option maxHeartbeats 2000000 in
theorem newKey_any (v : Value) (key : List UInt8) (w : World) (hv : Bs w v key) (hlen : key.length < 2 ^ 30) :
    Calls Try.prog 23 #[v] w fun e w' => ∃ y, e = .returned (.pointer (some ⟨y, 0, none⟩)) ∧ w.heap.size ≤ y ∧ KeyAt w' y key ∧ Below w.heap.size w w' := by
  obtain ⟨a, n, cap, rfl, hn, hc1, hc2, hB0⟩ := hv.shape
  clear hv
  have hnewf := fun W : World => rowIs_arr W 64 (fun _ => .int .u8 0) 60
  by_cases hlong : 64 < n
  · have hsh : shortK key = k256.sum key := by unfold shortK; rw [if_pos (by omega)]
    have hlI : (64 : Int) < (n : Int) := by omega
    have hR := Lib.hid (Bss.one hB0 rfl)
    have hbR : Below w.heap.size w (w.alloc (.cells #[.slice a n cap] 22)) := (Below.refl _ _).alloc (Nat.le_refl _) _
    have HN := Lib.hid hn
    have HL := Lib.hid hlen
    clear hn hlen hlong hB0
    go_enter Try.func23, Try.ntmps23
    go_wp2_with (first
      | (go_at_call 38; refine (sum256_any _ _ _ hR.out (by have := HL.out; simp only [List.flatten_cons, List.flatten_nil, List.append_nil]; omega)).mono ?_; rintro e w1 ⟨v1, rfl, hB1, hb1⟩
         have hb : Below w.heap.size w w1 := hbR.trans (hb1.mono hbR.size)
         simp only [List.flatten_cons, List.flatten_nil, List.append_nil] at hB1
         rw [← hsh] at hB1
         clear hb1 hR hbR
         have HB2 := Lib.hid (hB1.below ((Below.refl _ _).alloc (Nat.le_refl _) (.cells (arrOf 64 fun _ => .int .u8 0) 60)) (Nat.le_refl _))
         have hsz := hb.size
         have hb2 := hb.alloc hb.size (.cells (arrOf 64 fun _ => .int .u8 0) 60)
         clear hB1)
      | refine wpList_alloc_arr rfl 60 rfl (arrOf 64 fun _ => .int .u8 0) zeroKey ?_
      | refine wpList_op rfl (.slice 58 (.tmp 13) none none none) 22 (.slice (some ⟨_, 0, none⟩) 64 64) rfl rfl (exec_sliceAll _ _ _ _ _ Try.underlying58 (by kernel_rfl) rfl (by omega)) ?_
      | (refine wpList_copy_bytes rfl (.tmp 14) (.tmp 15) rfl (hnewf _) HB2.out rfl rfl (by omega) _ rfl ?_; intro w3 hr3 hg3 hs3))
    go_ret
    refine ⟨_, rfl, hsz, World.rowIs.congr hr3 fun i hi => copied_key key i hi, hb2.grown hg3 hb2.size (by intro k hk; cases hk; exact hsz)⟩
  · have hsh : shortK key = key := by unfold shortK; rw [if_neg (by omega)]
    have hlI : (n : Int) ≤ (64 : Int) := by omega
    rw [← hsh] at hB0
    have hb : Below w.heap.size w w := Below.refl _ _
    have hB1 := hB0
    have HB2 := Lib.hid (hB1.below ((Below.refl _ _).alloc (Nat.le_refl _) (.cells (arrOf 64 fun _ => .int .u8 0) 60)) (Nat.le_refl _))
    have hsz := hb.size
    have hb2 := hb.alloc hb.size (.cells (arrOf 64 fun _ => .int .u8 0) 60)
    clear hB1
    clear hn hlen hlong hB0 hsh
    go_enter Try.func23, Try.ntmps23
    go_wp2_with (first
      | refine wpList_alloc_arr rfl 60 rfl (arrOf 64 fun _ => .int .u8 0) zeroKey ?_
      | refine wpList_op rfl (.slice 58 (.tmp 13) none none none) 22 (.slice (some ⟨_, 0, none⟩) 64 64) rfl rfl (exec_sliceAll _ _ _ _ _ Try.underlying58 (by kernel_rfl) rfl (by omega)) ?_
      | (refine wpList_copy_bytes rfl (.tmp 14) (.tmp 15) rfl (hnewf _) HB2.out rfl rfl (by omega) _ rfl ?_; intro w3 hr3 hg3 hs3))
    go_ret
    refine ⟨_, rfl, hsz, World.rowIs.congr hr3 fun i hi => copied_key key i hi, hb2.grown hg3 hb2.size (by intro k hk; cases hk; exact hsz)⟩

set_option maxHeartbeats 2000000 in
theorem kmac_any (y : Nat) (key : List UInt8) (v : Value) (L : List (List UInt8)) (w : World) (hK : KeyAt w y key) (hv : Bss w v L) (hlen : L.flatten.length < 2 ^ 58) :
    Calls Try.prog 24 #[.pointer (some ⟨y, 0, none⟩), v] w fun e w' => ∃ v', e = .returned v' ∧ Owns w' w.heap.size v' (hmac key L.flatten) ∧ Below w.heap.size w w' := by
  have HV := Lib.hid hv
  obtain ⟨a, cap, rfl, h1, h2, h3, h4⟩ := hv
  clear h3 h4
  unfold maxLen at h2
  have hi36 : ((0x36 : UInt8).toNat : Int) = 54 := rfl
  have ho5c : ((0x5c : UInt8).toNat : Int) = 92 := rfl
  have hB36 := fun w hK => begun_any y key 0x36 w hK
  have hB5c := fun w hK => begun_any y key 0x5c w hK
  rw [hi36] at hB36
  rw [ho5c] at hB5c
  have hpx : ∀ m, (xorM m (padK key)).length = 64 := fun m => by rw [xorM_length, padK_length]
  have HX := Lib.hid hpx
  have HK := Lib.hid hK
  clear hi36 ho5c hpx hK
  go_enter Try.func24, Try.ntmps24
  go_wp2_with (go_at_call 39; refine (hB36 _ HK.out).mono ?_; rintro e w1 ⟨y1, rfl, hy1, hH1, hb1⟩)
  go_loopw [15] (fun i wr => ∃ j : Nat, j ≤ L.length ∧ i = .int .i64 j ∧ HashAt wr y1 (xorM 0x36 (padK key) ++ catTo L j) ∧ Below w.heap.size w wr) (fun i _ => L.length - (intOf i).toNat)
  case atStart => exact ⟨0, Nat.zero_le _, rfl, by simpa [catTo] using hH1, hb1⟩
  case round =>
    clear hH1 hb1
    obtain ⟨j, hj, rfl, hH, hbel⟩ := hrel
    by_cases hlt : j < L.length
    · have hsum : (catTo L j).length + L[j].length ≤ L.flatten.length := by
        have := catTo_le L (j + 1)
        rw [catTo_succ L j hlt, List.length_append] at this
        exact this
      obtain ⟨b, off, cap', he, _, _, hbl, hc⟩ := HV.out.open_cons (by omega)
      cases he
      obtain ⟨u, hcj, hu⟩ := hc j hlt
      clear hc
      have hcr : wr.cell? ⟨b, off + j, none⟩ = some u := (hbel.cell (by exact hbl)).trans hcj
      have HU := Lib.hid (hu.below hbel (Nat.le_refl _))
      have HA : Away u y1 := hu.away hy1
      clear hu
      go_wp2_with (go_at_call 40; refine (hadd_any y1 _ _ _ _ hH HU.out HA (by have := HX.out 0x36; rw [List.length_append]; omega)).mono ?_; rintro e w2 ⟨rfl, hH2, hg2⟩)
      rw [List.append_assoc, ← catTo_succ L j hlt] at hH2
      have hbel2 : Below w.heap.size w w2 := hbel.grown hg2 hbel.size (by intro k hk; cases hk; exact hy1)
      clear hH hbel hcr HU HA hg2
      go_wp2
      go_roundw
      case rel => exact ⟨j + 1, by omega, by go_num, hH2, hbel2⟩
      case measure => simp [intOf]; omega
    · obtain rfl : j = L.length := by omega
      rw [catTo_all L L.length (Nat.le_refl _)] at hH
      have hKr : KeyAt wr y key := HK.out.below hbel (Nat.le_refl _)
      go_wp2_with (first
        | (go_at_call 39; refine (hB5c _ hKr).mono ?_; rintro e w3 ⟨y2, rfl, hy2, hH2, hb3⟩
           have hb03 : Below w.heap.size w w3 := hbel.trans (hb3.mono hbel.size)
           have hH3 := hH.below hb3 (Nat.le_refl _)
           have hy02 := Nat.le_trans hbel.size hy2)
        | (go_at_call 41; refine (hsumO_any y1 _ _ hH3 (by have := HX.out 0x36; rw [List.length_append]; omega)).mono ?_; rintro e w4 ⟨v4, rfl, hO4, hb4⟩
           have hb04 : Below w.heap.size w w4 := hb03.trans (hb4.mono hb03.size)
           have hH4 := hH2.below hb4 (Nat.le_refl _)
           have hA4 : Away v4 y2 := hO4.away hH2.lt
           have hB4 := hO4.bs
           clear hH3 hH2 hO4)
        | (go_at_call 40; refine (hadd_any y2 _ _ _ _ hH4 hB4 hA4 (by have := HX.out 0x5c; rw [sum256_length]; omega)).mono ?_; rintro e w5 ⟨rfl, hH5, hg5⟩
           have hb05 : Below w.heap.size w w5 := hb04.grown hg5 hb04.size (by intro k hk; cases hk; exact hy02))
        | fail)
      refine (hsumO_any y2 _ _ hH5 (by have := HX.out 0x5c; rw [List.length_append, sum256_length]; omega)).mono ?_
      rintro e w6 ⟨v6, rfl, hB6, hb6⟩
      replace hB6 := hB6.lower hb05.size
      go_wp2
      go_ret
      exact ⟨_, rfl, hB6, hb05.trans (hb6.mono hb05.size)⟩

set_option maxHeartbeats 800000 in
theorem mac_any (vk v : Value) (key : List UInt8) (L : List (List UInt8)) (w : World) (hk : Bs w vk key) (hkl : key.length < 2 ^ 30) (hv : Bss w v L) (hlen : L.flatten.length < 2 ^ 58) :
    Calls Try.prog 52 #[vk, v] w fun e w' => ∃ v', e = .returned v' ∧ Bs w' v' (hmac key L.flatten) ∧ Below w.heap.size w w' := by
  have HV := Lib.hid hv
  have HK := Lib.hid hk
  have HL := Lib.hid hlen
  have HKL := Lib.hid hkl
  clear hv hk hlen hkl
  go_enter Try.func52, Try.ntmps52
  go_wp2_with (first
    | (go_at_call 23; refine (newKey_any _ key _ HK.out HKL.out).mono ?_; rintro e w1 ⟨y1, rfl, hy1, hK1, hb1⟩
       have HV1 := Lib.hid (HV.out.below hb1 (Nat.le_refl _)))
    | (go_at_call 24; refine (kmac_any y1 key _ L _ hK1 HV1.out HL.out).mono ?_; rintro e w2 ⟨v2, rfl, hO2, hb2⟩
       have hB2 := hO2.bs
       have hb02 := hb1.trans (hb2.mono hb1.size)))
  go_ret
  exact ⟨_, rfl, hB2, hb02⟩

set_option maxHeartbeats 800000 in
theorem extract_any (vk v : Value) (key l : List UInt8) (w : World) (hk : Bs w vk key) (hkl : key.length < 2 ^ 30) (hv : Bs w v l) (hlen : l.length < 2 ^ 30) :
    Calls Try.prog 37 #[vk, v] w fun e w' => ∃ v', e = .returned v' ∧ Bs w' v' (hmac key l) ∧ Below w.heap.size w w' := by
  obtain ⟨a, n, cap, rfl, hn, hc1, hc2, hB0⟩ := hv.shape
  have hbR : Below w.heap.size w (w.alloc (.cells #[.slice a n cap] 22)) := (Below.refl _ _).alloc (Nat.le_refl _) _
  have HR := Lib.hid (Bss.one hB0 rfl)
  have HK := Lib.hid (hk.below hbR (Nat.le_refl _))
  have HL : Hid (([l] : List (List UInt8)).flatten.length < 2 ^ 58) := Lib.hid (by simp only [List.flatten_cons, List.flatten_nil, List.append_nil]; omega)
  have HKL := Lib.hid hkl
  have hfl : ([l] : List (List UInt8)).flatten = l := by simp only [List.flatten_cons, List.flatten_nil, List.append_nil]
  have HFL := Lib.hid hfl
  clear hv hk hlen hkl hB0 hn hfl
  go_enter Try.func37, Try.ntmps37
  go_wp2_with (first
    | (go_at_call 52; refine (mac_any _ _ key [l] _ HK.out HKL.out HR.out HL.out).mono ?_; rintro e w2 ⟨v2, rfl, hB2, hb2⟩
       have hb02 := hbR.trans (hb2.mono hbR.size)
       rw [HFL.out] at hB2))
  go_ret
  exact ⟨_, rfl, hB2, hb02⟩
end Go.Proofs.Ytclbfbkbmiijnaa

/- The program's HKDF: stretch, Expand, Derive. -/
set_option linter.unusedSimpArgs false
set_option linter.unusedVariables false
namespace Go.Proofs.Ytclbfbkbmiijnaa
open Go.RowKit Go.Deep

theorem Bss.three {w : World} {v1 v2 v3 : Value} {l1 l2 l3 : List UInt8} (h1 : Bs w v1 l1) (h2 : Bs w v2 l2) (h3 : Bs w v3 l3) {n : Nat} (hn : w.heap.size = n) : Bss (w.alloc (.cells #[v1, v2, v3] 22)) (.slice (some ⟨n, 0, none⟩) 3 3) [l1, l2, l3] := by
  subst hn
  have hb : Below w.heap.size w (w.alloc (.cells #[v1, v2, v3] 22)) := (Below.refl _ _).alloc (Nat.le_refl _) _
  refine ⟨_, 3, rfl, by simp, by simp [maxLen], (fun h => by cases h), fun x hx i hi => ?_⟩
  cases hx
  match i, hi with
  | 0, _ =>
    refine ⟨by simp, v1, ?_, h1.below hb (Nat.le_refl _)⟩
    rw [add_eq]
    exact World.cell?_alloc_mark w #[v1, v2, v3] 22 (0, 0) 0
  | 1, _ =>
    refine ⟨by simp, v2, ?_, h2.below hb (Nat.le_refl _)⟩
    rw [add_eq]
    exact World.cell?_alloc_mark w #[v1, v2, v3] 22 (0, 0) 1
  | 2, _ =>
    refine ⟨by simp, v3, ?_, h3.below hb (Nat.le_refl _)⟩
    rw [add_eq]
    exact World.cell?_alloc_mark w #[v1, v2, v3] 22 (0, 0) 2

/-- 's[:h]'. -/
theorem run_bsTo {w : World} {ad : Option Addr} {n cap : Nat} {l : List UInt8} (hB : Bs w (.slice ad n cap) l) (h : Nat) (hh : h ≤ n) (h0 : 0 < n) :
    (Instr.sliceAt 22 (.slice ad n cap) none (some (.int .i64 (h : Int))) none).run Try.prog w = .ok (.slice ad h cap) w := by
  obtain ⟨a', cap', he, h1, h2, h3, h4⟩ := hB
  cases he
  cases hq : Try.prog.info? 5 with
  | none =>
    have := Try.info5
    simp [hq] at this
  | some i =>
    have hs : i.size = 1 := by
      have := Try.info5
      simp [hq] at this
      exact this.2.1
    have hcap : ¬ cap = 0 := by omega
    obtain ⟨x, rfl⟩ : ∃ x, ad = some x := by
      cases ad with
      | none => have := h3 rfl; omega
      | some x => exact ⟨x, rfl⟩
    have hx : x.add 0 = x := by unfold Addr.add; simp
    have hb := run_bound_in (P := Try.prog) w .i64 h cap .sliceAcap (by omega)
    simp [Instr.sliceAt, run_underlying Try.underlying22 w, Instr.slice, Instr.sliceBounds, sizeOf, typeInfo, hq, hs, hcap, hx, Result.andThen]
    have hb' : (Instr.sliceBound (.int .i64 (h : Int)) cap .sliceAcap).run Try.prog w = .ok h w := hb
    simp [hb', hcap, hx]
theorem wpList_bsTo {ops : Array Oper} {rest : List Oper} {o : Oper} {a : Act} {w : World} {Q : Exit → Act → World → Prop} (hgd : o.guard = none) (x hi : Operand) (ho : o.op = .slice 22 x none (some hi) none) {ad : Option Addr} {n cap : Nat} {l : List UInt8} (hB : Bs w (.slice ad n cap) l) (h : Nat) {i : Int}
    (hx : a.eval x = .slice ad n cap) (hhi : a.eval hi = .int .i64 i) (hih : i = (h : Int)) (hh : h ≤ n) (h0 : 0 < n)
    (hk : Bs w (.slice ad h cap) (l.take h) → wpList Try.prog ops Q rest (a.put o.dst (.slice ad h cap)) w) : wpList Try.prog ops Q (o :: rest) a w := by
  refine wpList_value hgd (.slice ad h cap) ?_ (hk (hB.take hh))
  have hrun := run_bsTo hB h hh h0
  subst hih
  simp [execOp, ho, hx, hhi, hrun, Result.andThen]

theorem wpList_min {ops : Array Oper} {rest : List Oper} {o : Oper} {a : Act} {w : World} {Q : Exit → Act → World → Prop} (hgd : o.guard = none) (x y : Operand) {ts : Array TypeId} (ho : o.op = .call { callee := .builtin .min, args := #[x, y], argTypes := ts }) {k : IntKind} {i j m : Int}
    (hx : a.eval x = .int k i) (hy : a.eval y = .int k j) (hm : m = if j < i then j else i) (h : wpList Try.prog ops Q rest (a.put o.dst (.int k m)) w) : wpList Try.prog ops Q (o :: rest) a w := by
  refine wpList_value hgd (.int k m) ?_ h
  subst hm
  simp [execOp, ho, resolve, invoke, builtin, hx, hy, run_min_int2, Result.andThen]

theorem append_cut (prk info : List UInt8) (j n k : Nat) (hN : (hkN prk info (j + 1)).length = 32) (e : min 32 (n - 32 * j) = k) {w : World} {base : Nat} {v : Value}
    (h : Owns w base v ((hkTo prk info j).take n ++ (hmac prk (hkN prk info j ++ info ++ [UInt8.ofNat (j + 1)])).take k)) : Owns w base v ((hkTo prk info j).take n ++ (hkN prk info (j + 1)).take (n - 32 * j)) := by
  have : (hkN prk info (j + 1)).take (n - 32 * j) = (hkN prk info (j + 1)).take k := by
    by_cases h1 : n - 32 * j ≤ 32
    · rw [← e, Nat.min_eq_right h1]
    · rw [← e, Nat.min_eq_left (by omega), List.take_of_length_le (by omega), List.take_of_length_le (by omega)]
  rw [this]
  exact h

set_option maxHeartbeats 2000000 in
set_option maxRecDepth 20000 in
theorem stretch_any (y : Nat) (prk info : List UInt8) (vi : Value) (n : Nat) (w : World) (hK : KeyAt w y prk) (hi : Bs w vi info) (hil : info.length < 2 ^ 30) (hn : 1 ≤ n) (hn2 : n ≤ 8160) :
    Calls Try.prog 51 #[.func (.func 24) #[.pointer (some ⟨y, 0, none⟩)] #[], vi, .int .i64 (n : Int)] w fun e w' => ∃ v', e = .returned v' ∧ Bs w' v' (hkdfL prk info n) ∧ Below w.heap.size w w' := by
  obtain ⟨ai, ni, ci, rfl, hni, hci1, hci2, hI0⟩ := hi.shape
  have HI := Lib.hid hI0
  have HK := Lib.hid hK
  have HIL := Lib.hid hil
  have HNI := Lib.hid hni
  obtain ⟨i0, hi0, hz0, hz1, hz2⟩ := info_parts Try.info5
  have hlen : ∀ j, (hkTo prk info j).length = 32 * j := hkTo_length prk info
  have HLEN := Lib.hid hlen
  clear hi hI0 hK hil hlen hni
  go_enter Try.func51, Try.ntmps51
  go_wp2_with (refine wpList_make_own _ rfl _ _ 22 rfl w.heap.size 5 i0 (.int .u8 0) 1 Try.underlying22 hi0 hz0 hz1 .i64 .i64 _ n rfl rfl rfl (by rw [hz2]; omega) (by unfold maxLen; omega) (Nat.le_refl _) ?_; intro w1 hown1 hgrow1)
  have hO : Owns w1 w.heap.size (.slice (some ⟨w.heap.size, 0, none⟩) 0 n) [] := hown1
  have hB1 : Below w.heap.size w w1 := (Below.refl _ _).grown hgrow1 (Nat.le_refl _) (fun k hk => by cases hk)
  clear hown1 hgrow1
  go_loopw [7, 8, 9] (fun out last c wr => ∃ j : Nat, c = .int .i64 ((j + 1 : Nat) : Int) ∧ (j = 0 ∨ 32 * (j - 1) < n) ∧ Owns wr w.heap.size out ((hkTo prk info j).take n) ∧ Bs wr last (hkN prk info j) ∧ Below w.heap.size w wr) (fun _ _ c _ => n + 32 - 32 * (intOf c).toNat)
  case atStart => exact ⟨0, rfl, .inl rfl, by simpa [hkTo] using hO, Bs.nil _, hB1⟩
  case round =>
    clear hO hB1
    obtain ⟨j, rfl, hjn, hown, hlast, hbel⟩ := hrel
    obtain ⟨ao, co, hoe⟩ := hown.shape
    have hol : ((hkTo prk info j).take n).length = min n (32 * j) := by rw [List.length_take, HLEN.out]
    by_cases hlt : 32 * j < n
    · have hj255 : j + 1 ≤ 255 := by omega
      have hcb : ((UInt8.ofNat (j + 1)).toNat : Int) = (j : Int) + 1 := by
        simp only [UInt8.toNat_ofNat']
        omega
      have hN1 := hkN_length prk info j
      have hlastle := hkN_le prk info j
      have hjl : ((hkTo prk info j).take n).length = 32 * j := by omega
      rw [hjl] at hoe
      subst hoe
      obtain ⟨al, nl, cl, rfl, hnl, hcl1, hcl2, hL0⟩ := hlast.shape
      have hone := Bs.one wr (UInt8.ofNat (j + 1))
      rw [hcb] at hone
      have hb1 : Below wr.heap.size wr (wr.alloc (.cells #[.int .u8 ((j : Int) + 1)] 5)) := (Below.refl _ _).alloc (Nat.le_refl _) _
      have hI1 := (HI.out.below hbel (Nat.le_refl _)).below hb1 (Nat.le_refl _)
      have hL1 := hL0.below hb1 (Nat.le_refl _)
      have hR := Bss.three hL1 hI1 hone (n := wr.heap.size + 1) (by simp)
      have hb2 : Below wr.heap.size wr ((wr.alloc (.cells #[.int .u8 ((j : Int) + 1)] 5)).alloc (.cells #[.slice al nl cl, .slice ai ni ci, .slice (some ⟨wr.heap.size, 0, none⟩) 1 1] 22)) := hb1.alloc hb1.size _
      have hK2 := (HK.out.below hbel (Nat.le_refl _)).below hb2 (Nat.le_refl _)
      have hfl : ([hkN prk info j, info, [UInt8.ofNat (j + 1)]] : List (List UInt8)).flatten = hkN prk info j ++ info ++ [UInt8.ofNat (j + 1)] := by simp
      have hfll : (([hkN prk info j, info, [UInt8.ofNat (j + 1)]] : List (List UInt8)).flatten).length < 2 ^ 58 := by rw [hfl]; simp only [List.length_append, List.length_singleton]; have := HIL.out; omega
      have HFL := Lib.hid hfl
      have HR := Lib.hid hR
      have HFLL := Lib.hid hfll
      have HO := Lib.hid hown
      have hnle : n ≤ 8160 := hn2
      have HT := Lib.hid (hkTo_take prk info j n)
      have HHL := Lib.hid hjl
      clear hone hb1 hI1 hL1 hR hL0 hfl hfll hlast hown hnl hlastle hol hjl
      go_wp2_with fail
      refine (kmac_any y prk _ _ _ hK2 HR.out HFLL.out).mono ?_
      rintro e w3 ⟨v3, rfl, hO3, hb3⟩
      rw [HFL.out] at hO3
      have HA3 : Hid (∀ b, (Value.slice ao (32 * j) co).ownBlock = some b → Away v3 b) := Lib.hid fun b hb => hO3.away (by have := (World.ownsRow.lt HO.out b hb).2; have := hb2.size; omega)
      have hB3 := hO3.bs
      clear hO3
      have hb03 : Below w.heap.size w w3 := hbel.trans ((hb2.trans (hb3.mono hb2.size)).mono hbel.size)
      have HO3 := Lib.hid (HO.out.below (hb2.trans (hb3.mono hb2.size)))
      obtain ⟨a3, n3, c3, rfl, hn3, hc31, hc32, hB3⟩ := hB3.shape
      have hn32 : n3 = 32 := by rw [← hn3]; exact hmac_length _ _
      subst hn32
      clear hb2 hb3 HR HFLL HFL hK2 hn3 hbel
      obtain ⟨k, hk⟩ : ∃ k, k = min 32 (n - 32 * j) := ⟨_, rfl⟩
      have hkI : IntKind.i64.wrap ((n : Int) - 32 * (j : Int)) = ((n - 32 * j : Nat) : Int) := by rw [IntWalk.i64_in _ (by omega)]; omega
      have HKK := Lib.hid hk
      have hk32 : k ≤ 32 := by omega
      clear hk
      go_wp2_with (first
        | refine wpList_min rfl (.tmp 29) (.tmp 33) rfl (m := (k : Int)) rfl rfl (by rw [HKK.out]; split <;> omega) ?_
        | (refine wpList_bsTo rfl (.tmp 27) (.tmp 34) rfl hB3 k rfl rfl rfl hk32 (by omega) ?_; intro hB4)
        | (refine wpList_app rfl (.tmp 26) (.tmp 35) rfl w.heap.size _ _ _ _ HO3.out hB4 rfl rfl (by have := HHL.out; simp only [List.length_take, hmac_length]; omega) hb03.size ?_; intro v5 w5 hO5 hg5))
      have hbel5 : Below w.heap.size w w5 := hb03.grown hg5 hb03.size (Owns.block HO3.out)
      have hB5 : Bs w5 (.slice a3 32 c3) (hmac prk (hkN prk info j ++ info ++ [UInt8.ofNat (j + 1)])) := hB3.grownOwn hg5 HO3.out (fun b _ hb => HA3.out b hb)
      clear HO3 hg5 hb03 hB3 hB4
      go_wp2
      go_roundw
      case rel => exact ⟨j + 1, by go_num, .inr (by omega), by rw [HT.out]; have e : min 32 (n - 32 * j) = k := HKK.out.symm; exact append_cut prk info j n k hN1 e hO5, hB5, hbel5⟩
      case measure => simp [intOf]; omega
    · have hln : ((hkTo prk info j).take n).length = n := by omega
      rw [hln] at hoe
      subst hoe
      have hall : (hkTo prk info j).take n = hkdfL prk info n := by
        unfold hkdfL
        rw [show (n + 31) / 32 = j by omega]
      rw [hall] at hown
      have HO := Lib.hid hown
      clear hlast hol hln hall hown
      go_wp2
      go_ret
      exact ⟨_, rfl, HO.out.bs, hbel⟩

set_option maxHeartbeats 1000000 in
set_option maxRecDepth 20000 in
theorem expand_any (vp vi : Value) (prk info : List UInt8) (n : Int) (w : World) (hp : Bs w vp prk) (hpl : prk.length < 2 ^ 30) (hi : Bs w vi info) (hil : info.length < 2 ^ 30) (hn : (Lit.int .i64 n).wf = true) :
    Calls Try.prog 36 #[vp, vi, .int .i64 n] w fun e w' => ∃ v', e = .returned v' ∧ Bs w' v' (expandL prk info n) ∧ Below w.heap.size w w' := by
  have HP := Lib.hid hp
  have HI := Lib.hid hi
  have HPL := Lib.hid hpl
  have HIL := Lib.hid hil
  clear hp hpl hi hil
  by_cases h1 : n < 1
  · rw [expandL_out _ _ _ (.inl h1)]
    clear hn
    go_enter Try.func36, Try.ntmps36
    go_wp2
    go_ret
    exact ⟨_, rfl, Bs.nil _, Below.refl _ _⟩
  · by_cases h2 : 8160 < n
    · rw [expandL_out _ _ _ (.inr h2)]
      clear hn
      go_enter Try.func36, Try.ntmps36
      go_wp2
      go_ret
      exact ⟨_, rfl, Bs.nil _, Below.refl _ _⟩
    · obtain ⟨m, rfl⟩ : ∃ m : Nat, n = (m : Int) := ⟨n.toNat, by omega⟩
      rw [expandL_in _ _ _ (by omega)]
      have hm1 : 1 ≤ m := by omega
      have hm2 : m ≤ 8160 := by omega
      simp only [Int.toNat_natCast]
      clear hn
      go_enter Try.func36, Try.ntmps36
      go_wp2_with (first
        | (go_at_call 23; refine (newKey_any _ prk _ HP.out HPL.out).mono ?_; rintro e w1 ⟨y1, rfl, hy1, hK1, hb1⟩
           have HI1 := Lib.hid (HI.out.below hb1 (Nat.le_refl _)))
        | (go_at_call 51; refine (stretch_any y1 prk info _ m _ hK1 HI1.out HIL.out hm1 hm2).mono ?_; rintro e w2 ⟨v2, rfl, hB2, hb2⟩
           have hb02 := hb1.trans (hb2.mono hb1.size)))
      go_ret
      exact ⟨_, rfl, hB2, hb02⟩

set_option maxHeartbeats 800000 in
set_option maxRecDepth 20000 in
theorem derive_any (vs vk vi : Value) (salt ikm info : List UInt8) (n : Int) (w : World) (hs : Bs w vs salt) (hsl : salt.length < 2 ^ 30) (hk : Bs w vk ikm) (hkl : ikm.length < 2 ^ 30) (hi : Bs w vi info) (hil : info.length < 2 ^ 30) (hn : (Lit.int .i64 n).wf = true) :
    Calls Try.prog 22 #[vs, vk, vi, .int .i64 n] w fun e w' => ∃ v', e = .returned v' ∧ Bs w' v' (deriveL salt ikm info n) ∧ Below w.heap.size w w' := by
  have HS := Lib.hid hs
  have HK := Lib.hid hk
  have HI := Lib.hid hi
  have HSL := Lib.hid hsl
  have HKL := Lib.hid hkl
  have HIL := Lib.hid hil
  clear hs hsl hk hkl hi hil
  go_enter Try.func22, Try.ntmps22
  go_wp2_with (first
    | (go_at_call 37; refine (extract_any _ _ salt ikm _ HS.out HSL.out HK.out HKL.out).mono ?_; rintro e w1 ⟨v1, rfl, hB1, hb1⟩
       have HI1 := Lib.hid (HI.out.below hb1 (Nat.le_refl _)))
    | (go_at_call 36; refine (expand_any _ _ _ info n _ hB1 (by rw [hmac_length]; decide) HI1.out HIL.out hn).mono ?_; rintro e w2 ⟨v2, rfl, hB2, hb2⟩
       have hb02 := hb1.trans (hb2.mono hb1.size)))
  go_ret
  exact ⟨_, rfl, hB2, hb02⟩
end Go.Proofs.Ytclbfbkbmiijnaa

/- Sum512 of rows. -/
set_option linter.unusedSimpArgs false
set_option linter.unusedVariables false
namespace Go.Proofs.Ytclbfbkbmiijnaa
open Go.RowKit Go.Deep

end Go.Proofs.Ytclbfbkbmiijnaa

/- What the document's sums need: a slice with both bounds, words out of a slice, sums of words. -/
set_option linter.unusedSimpArgs false
set_option linter.unusedVariables false
namespace Go.Proofs.Ytclbfbkbmiijnaa
open Go.RowKit Go.Deep

theorem numB_ext (l l' : List UInt8) : ∀ k, (∀ i, i < k → l.getD i 0 = l'.getD i 0) → numB l k = numB l' k
  | 0, _ => rfl
  | k + 1, h => by
    rw [numB, numB, numB_ext l l' k (fun i hi => h i (by omega))]
    unfold byteAt
    rw [h k (by omega)]
/-- A word of a block, cut out of the whole. -/
theorem numB_cut (M : List UInt8) (p t b B : Nat) (h : t + b ≤ B) : numB ((M.drop (p + t)).take b) b = numB (((M.drop p).take B).drop t) b := by
  refine numB_ext _ _ _ fun i hi => ?_
  rw [List.getD_eq_getElem?_getD, List.getD_eq_getElem?_getD, List.getElem?_take_of_lt hi, List.getElem?_drop, List.getElem?_drop, List.getElem?_take_of_lt (by omega), List.getElem?_drop]
  congr 2
  omega

/-- The document's noughts: so many that the count fits. -/
theorem room64 (n z : Nat) (hz : z ≤ endRoom n 64 - 9) : (n + 1 + z) % 64 = 56 ↔ z = endRoom n 64 - 9 := by
  unfold endRoom at *; split at hz <;> split <;> omega
theorem pad_blocks {n : Nat} (k : Kind n) (l : List UInt8) (hk : 64 ≤ k.block) (h9 : k.block = 64 ∨ k.block = 128) : (k.pad l).length = k.block * ((k.pad l).length / k.block) := by
  have h1 : (k.pad l).length = l.length + endRoom l.length k.block := by
    unfold Kind.pad
    rw [List.length_append, endOf_length _ _ hk]
  have h2 : (l.length + endRoom l.length k.block) % k.block = 0 := by
    unfold endRoom
    rcases h9 with h | h <;> rw [h] <;> split <;> omega
  rw [h1]
  have := Nat.div_add_mod (l.length + endRoom l.length k.block) k.block
  omega
theorem ref_add4_32 (a b c d : BitVec 32) : ((((d.toNat : Int) + c.toNat) % 4294967296 + b.toNat) % 4294967296 + a.toNat) % 4294967296 = ((a + b + c + d).toNat : Int) := by
  simp only [BitVec.toNat_add]; omega
theorem ref_t32 (W h t c : BitVec 32) (j : Nat) : (((h.toNat : Int) + t.toNat + c.toNat + ((K64 j).toNat : Int) / 4294967296) % 4294967296 + W.toNat) % 4294967296 = ((W + (h + t + c + K32 j)).toNat : Int) := by
  rw [K32_val']; simp only [BitVec.toNat_add]; omega
theorem ref_u32 (g m : BitVec 32) : ((g.toNat : Int) + m.toNat) % 4294967296 = ((g + m).toNat : Int) := add32 g m
theorem tri_val32 (x : BitVec 32) (i j k : Nat) : bits .xor .u32 (bits .xor .u32 (rotr x i).toNat (rotr x j).toNat) (rotr x k).toNat = ((tri x i j k).toNat : Int) := by
  rw [xor32, xor32]; rfl
theorem chz_val32 (x y z : BitVec 32) : bits .xor .u32 (bits .and .u32 x.toNat y.toNat) (bits .and .u32 (bits .xor .u32 IntKind.u32.max x.toNat) z.toNat) = ((chz x y z).toNat : Int) := by
  rw [not32, and32, and32, xor32]; rfl
theorem maj_val32 (x y z : BitVec 32) : bits .xor .u32 (bits .xor .u32 (bits .and .u32 x.toNat y.toNat) (bits .and .u32 x.toNat z.toNat)) (bits .and .u32 y.toNat z.toNat) = ((maj x y z).toNat : Int) := by
  rw [and32, and32, and32, xor32, xor32]; rfl
def sel32 (a b c d e f g h : Int) : Nat → Value
  | 0 => .int .u32 a
  | 1 => .int .u32 b
  | 2 => .int .u32 c
  | 3 => .int .u32 d
  | 4 => .int .u32 e
  | 5 => .int .u32 f
  | 6 => .int .u32 g
  | _ => .int .u32 h
theorem sel32_one (a b c d e f g h : Int) : ∀ j, j < 8 → (sel32 a b c d e f g h j).oneCell' = true := fun j _ => by
  unfold sel32; split <;> rfl
theorem sel32_state (s : S8 32) (a b c d e f g h : Int) (h0 : a = (s.a.toNat : Int)) (h1 : b = (s.b.toNat : Int)) (h2 : c = (s.c.toNat : Int)) (h3 : d = (s.d.toNat : Int)) (h4 : e = (s.e.toNat : Int)) (h5 : f = (s.f.toNat : Int)) (h6 : g = (s.g.toNat : Int)) (h7 : h = (s.h.toNat : Int)) (i : Nat) (_hi : i < 8) :
    sel32 a b c d e f g h i = w32 s.at i := by
  subst h0 h1 h2 h3 h4 h5 h6 h7
  match i with
  | 0 => rfl
  | 1 => rfl
  | 2 => rfl
  | 3 => rfl
  | 4 => rfl
  | 5 => rfl
  | 6 => rfl
  | _ + 7 => rfl
end Go.Proofs.Ytclbfbkbmiijnaa

/- The document's sums: the first sixteen words of a block. -/
set_option linter.unusedSimpArgs false
set_option linter.unusedVariables false
namespace Go.Proofs.Ytclbfbkbmiijnaa
open Go.RowKit Go.Deep

set_option maxHeartbeats 16000000 in
set_option maxRecDepth 100000 in
theorem ref256_L4 {Q : Exit → Act → World → Prop} (w3 : World) (hb wb T c3 q : Nat) (a3 : Option Addr) (M : List UInt8) (W : Nat → BitVec 32) (st : Nat → BitVec 32) {u0 u1 u2 u3 u4 u5 u6 u11 u12 u13 u14 u15 u16 u17 u18 u19 u20 u21 u22 u23 u24 u25 u26 u27 u28 u29 u30 u31 u32 u33 u34 u35 u36 u37 u38 u39 u40 u41 u42 u43 u44 u45 u46 u47 u48 u49 u50 u51 u52 u53 u54 u55 u56 u57 u58 u59 u60 u61 u62 u63 u64 u65 u66 u67 u68 u69 u70 u71 u72 u73 u74 u75 u76 u77 u78 u79 u80 u81 u82 u83 u84 u85 u86 u87 u88 u89 u90 u91 u92 u93 u94 u95 u96 u97 u98 u99 u100 u101 u102 u103 u104 u105 u106 u107 u108 u109 u110 u111 u112 u113 u114 u115 u116 u117 u118 u119 u120 u121 u122 u123 u124 u125 u126 u127 u128 u129 u130 u131 u132 u133 u134 u135 u136 u137 u138 u139 u140 u141 u142 u143 u144 u145 u146 u147 u148 u149 u150 u151 u152 u153 u154 u155 u156 u157 u158 u159 u160 u161 u162 u163 u164 u165 u166 u167 u168 u169 u170 u171 u172 u173 u174 u175 u176 u177 u178 u179 u180 u181 u182 u183 u184 u185 u186 u187 u188 u189 u190 u191 u192 u193 u194 u195 u196 u197 u198 u199 u200 u201 u202 u203 u204 u205 u206 u207 u208 u209 u210 u211 u212 u213 u214 u215 u216 u217 u218 u219 u220 u221 u222 u223 u224 u225 u226 u227 u228 u229 u230 u231 u232 u233 u234 u235 u236 u237 u238 u239 u240 u241 u242 : Value} {wq : World} (hT : T < 2 ^ 31) (hq : q + 64 ≤ T) (hB3 : Hid (Bs w3 (.slice a3 T c3) M)) (hA3 : Away (.slice a3 T c3) hb) (hwb : w3.heap.size ≤ wb) (hwn : hb ≠ wb) (HW16 : Hid (∀ t, t < 16 → W t = BitVec.ofNat 32 (numB ((M.drop (q + 4 * t)).take 4) 4)))
    (hW0 : wq.rowIs wb 77 64 (fun _ => .int .u32 0)) (hH0 : wq.rowIs hb 75 8 (w32 st)) (hg0 : w3.grownBy wq (some hb))
    (hK : ∀ (x10 x61 x62 x63 x64 x65 x66 x67 x68 x69 x70 x71 x72 x73 x74 x75 x76 x77 x78 x79 : Value) (w' : World), (w'.rowIs wb 77 64 (fun i => .int .u32 (if i < 16 then ((W i).toNat : Int) else 0)) ∧ w'.rowIs hb 75 8 (w32 st) ∧ w3.grownBy w' (some hb)) → Q (.exit 6) ⟨(List.toArray (u0 :: u1 :: u2 :: u3 :: u4 :: u5 :: u6 :: (.slice a3 T c3) :: (.int .i64 (q : Int)) :: (.pointer (some ⟨wb, 0, none⟩)) :: x10 :: u11 :: u12 :: u13 :: u14 :: u15 :: u16 :: u17 :: u18 :: u19 :: u20 :: u21 :: u22 :: u23 :: u24 :: u25 :: u26 :: u27 :: u28 :: u29 :: u30 :: u31 :: u32 :: u33 :: u34 :: u35 :: u36 :: u37 :: u38 :: u39 :: u40 :: u41 :: u42 :: u43 :: u44 :: u45 :: u46 :: u47 :: u48 :: u49 :: u50 :: u51 :: u52 :: u53 :: u54 :: u55 :: u56 :: u57 :: u58 :: u59 :: u60 :: x61 :: x62 :: x63 :: x64 :: x65 :: x66 :: x67 :: x68 :: x69 :: x70 :: x71 :: x72 :: x73 :: x74 :: x75 :: x76 :: x77 :: x78 :: x79 :: u80 :: u81 :: u82 :: u83 :: u84 :: u85 :: u86 :: u87 :: u88 :: u89 :: u90 :: u91 :: u92 :: u93 :: u94 :: u95 :: u96 :: u97 :: u98 :: u99 :: u100 :: u101 :: u102 :: u103 :: u104 :: u105 :: u106 :: u107 :: u108 :: u109 :: u110 :: u111 :: u112 :: u113 :: u114 :: u115 :: u116 :: u117 :: u118 :: u119 :: u120 :: u121 :: u122 :: u123 :: u124 :: u125 :: u126 :: u127 :: u128 :: u129 :: u130 :: u131 :: u132 :: u133 :: u134 :: u135 :: u136 :: u137 :: u138 :: u139 :: u140 :: u141 :: u142 :: u143 :: u144 :: u145 :: u146 :: u147 :: u148 :: u149 :: u150 :: u151 :: u152 :: u153 :: u154 :: u155 :: u156 :: u157 :: u158 :: u159 :: u160 :: u161 :: u162 :: u163 :: u164 :: u165 :: u166 :: u167 :: u168 :: u169 :: u170 :: u171 :: u172 :: u173 :: u174 :: u175 :: u176 :: u177 :: u178 :: u179 :: u180 :: u181 :: u182 :: u183 :: u184 :: u185 :: u186 :: u187 :: u188 :: u189 :: u190 :: u191 :: u192 :: u193 :: u194 :: u195 :: u196 :: u197 :: u198 :: u199 :: u200 :: u201 :: u202 :: u203 :: u204 :: u205 :: u206 :: u207 :: u208 :: u209 :: u210 :: u211 :: u212 :: u213 :: u214 :: u215 :: u216 :: u217 :: u218 :: u219 :: u220 :: u221 :: u222 :: u223 :: u224 :: u225 :: u226 :: u227 :: u228 :: u229 :: u230 :: u231 :: u232 :: u233 :: u234 :: u235 :: u236 :: u237 :: u238 :: u239 :: u240 :: u241 :: u242 :: [])), []⟩ w') :
    Code.wp Try.prog (codeAt 6 Try.f34) Q ⟨(List.toArray (u0 :: u1 :: u2 :: u3 :: u4 :: u5 :: u6 :: (.slice a3 T c3) :: (.int .i64 (q : Int)) :: (.pointer (some ⟨wb, 0, none⟩)) :: (.int .i64 (0 : Int)) :: u11 :: u12 :: u13 :: u14 :: u15 :: u16 :: u17 :: u18 :: u19 :: u20 :: u21 :: u22 :: u23 :: u24 :: u25 :: u26 :: u27 :: u28 :: u29 :: u30 :: u31 :: u32 :: u33 :: u34 :: u35 :: u36 :: u37 :: u38 :: u39 :: u40 :: u41 :: u42 :: u43 :: u44 :: u45 :: u46 :: u47 :: u48 :: u49 :: u50 :: u51 :: u52 :: u53 :: u54 :: u55 :: u56 :: u57 :: u58 :: u59 :: u60 :: u61 :: u62 :: u63 :: u64 :: u65 :: u66 :: u67 :: u68 :: u69 :: u70 :: u71 :: u72 :: u73 :: u74 :: u75 :: u76 :: u77 :: u78 :: u79 :: u80 :: u81 :: u82 :: u83 :: u84 :: u85 :: u86 :: u87 :: u88 :: u89 :: u90 :: u91 :: u92 :: u93 :: u94 :: u95 :: u96 :: u97 :: u98 :: u99 :: u100 :: u101 :: u102 :: u103 :: u104 :: u105 :: u106 :: u107 :: u108 :: u109 :: u110 :: u111 :: u112 :: u113 :: u114 :: u115 :: u116 :: u117 :: u118 :: u119 :: u120 :: u121 :: u122 :: u123 :: u124 :: u125 :: u126 :: u127 :: u128 :: u129 :: u130 :: u131 :: u132 :: u133 :: u134 :: u135 :: u136 :: u137 :: u138 :: u139 :: u140 :: u141 :: u142 :: u143 :: u144 :: u145 :: u146 :: u147 :: u148 :: u149 :: u150 :: u151 :: u152 :: u153 :: u154 :: u155 :: u156 :: u157 :: u158 :: u159 :: u160 :: u161 :: u162 :: u163 :: u164 :: u165 :: u166 :: u167 :: u168 :: u169 :: u170 :: u171 :: u172 :: u173 :: u174 :: u175 :: u176 :: u177 :: u178 :: u179 :: u180 :: u181 :: u182 :: u183 :: u184 :: u185 :: u186 :: u187 :: u188 :: u189 :: u190 :: u191 :: u192 :: u193 :: u194 :: u195 :: u196 :: u197 :: u198 :: u199 :: u200 :: u201 :: u202 :: u203 :: u204 :: u205 :: u206 :: u207 :: u208 :: u209 :: u210 :: u211 :: u212 :: u213 :: u214 :: u215 :: u216 :: u217 :: u218 :: u219 :: u220 :: u221 :: u222 :: u223 :: u224 :: u225 :: u226 :: u227 :: u228 :: u229 :: u230 :: u231 :: u232 :: u233 :: u234 :: u235 :: u236 :: u237 :: u238 :: u239 :: u240 :: u241 :: u242 :: [])), []⟩ wq := by
  conv => arg 2; whnf
  go_loopw [10] (fun i wr => ∃ t : Nat, t ≤ 16 ∧ i = .int .i64 t ∧ wr.rowIs wb 77 64 (fun i => .int .u32 (if i < t then ((W i).toNat : Int) else 0)) ∧
    wr.rowIs hb 75 8 (w32 st) ∧ w3.grownBy wr (some hb)) (fun i _ => 16 - (intOf i).toNat)
  case atStart => exact ⟨0, Nat.zero_le _, rfl, hW0.congr fun i _ => rfl, hH0, hg0⟩
  case round =>
    clear hW0 hH0 hg0
    obtain ⟨t, ht, rfl, hWr, hH, hg⟩ := hrel
    by_cases hlt4 : t < 16
    · have HBq := Lib.hid (gb_bs hB3.out hg hA3)
      have hcell := hWr.cell (i := t) (by omega)
      have hfr := hWr.frozen t
      have ht16 : (t : Int) < 64 := by omega
      have hnum : IntKind.u32.wrap ((numB ((M.drop (q + 4 * t)).take 4) 4 : Nat) : Int) = ((W t).toNat : Int) := by
        rw [HW16.out t hlt4, ← numB_w32]
        exact IntWalk.u32_in _ ⟨by omega, by have := numB_4 ((M.drop (q + 4 * t)).take 4); omega⟩
      clear hK
      go_wp2_with (first
        | (refine wpList_bsCut rfl (.tmp 66) (.tmp 70) (.tmp 75) rfl HBq.out (q + 4 * t) (q + 4 * t + 4) rfl rfl (by omega) rfl (by omega) (by omega) (by omega) 4 (by omega) ?_; intro ad' hB'
           have HB' := Lib.hid hB'
           clear hB')
        | (go_at_call 49; refine (getBig_any _ _ 4 _ HB'.out (by omega) (by omega)).mono ?_; rintro e w' ⟨rfl, rfl⟩))
      go_roundw
      case rel =>
        refine ⟨t + 1, by omega, by go_num, (hWr.set t _).congr fun i hi => ?_, hH.setOther hwn _, gb_set hg hwb _⟩
        show (if i = t then _ else _) = _
        by_cases e : i = t
        · subst e
          rw [if_pos rfl, if_pos (by omega)]
          try (first | rfl | exact congrArg (Value.int .u32) hnum)
        · rw [if_neg e]
          by_cases h2 : i < t
          · rw [if_pos h2, if_pos (by omega)]
          · rw [if_neg h2, if_neg (by omega)]
      case measure => simp [intOf]; omega
    · obtain rfl : t = 16 := by omega
      go_wp2
      exact ⟨hWr, hH, hg⟩

end Go.Proofs.Ytclbfbkbmiijnaa

/- The document's sums: the words that follow. -/
set_option linter.unusedSimpArgs false
set_option linter.unusedVariables false
namespace Go.Proofs.Ytclbfbkbmiijnaa
open Go.RowKit Go.Deep

set_option maxHeartbeats 16000000 in
set_option maxRecDepth 100000 in
theorem ref256_L5 {Q : Exit → Act → World → Prop} (w3 : World) (hb wb : Nat) (W : Nat → BitVec 32) (st : Nat → BitVec 32) {u0 u1 u2 u3 u4 u5 u6 u7 u8 u10 u12 u13 u14 u15 u16 u17 u18 u19 u20 u21 u22 u23 u24 u25 u26 u27 u28 u29 u30 u31 u32 u33 u34 u35 u36 u37 u38 u39 u40 u41 u42 u43 u44 u45 u46 u47 u48 u49 u50 u51 u52 u53 u54 u55 u56 u57 u58 u59 u60 u61 u62 u63 u64 u65 u66 u67 u68 u69 u70 u71 u72 u73 u74 u75 u76 u77 u78 u79 u80 u81 u82 u83 u84 u85 u86 u87 u88 u89 u90 u91 u92 u93 u94 u95 u96 u97 u98 u99 u100 u101 u102 u103 u104 u105 u106 u107 u108 u109 u110 u111 u112 u113 u114 u115 u116 u117 u118 u119 u120 u121 u122 u123 u124 u125 u126 u127 u128 u129 u130 u131 u132 u133 u134 u135 u136 u137 u138 u139 u140 u141 u142 u143 u144 u145 u146 u147 u148 u149 u150 u151 u152 u153 u154 u155 u156 u157 u158 u159 u160 u161 u162 u163 u164 u165 u166 u167 u168 u169 u170 u171 u172 u173 u174 u175 u176 u177 u178 u179 u180 u181 u182 u183 u184 u185 u186 u187 u188 u189 u190 u191 u192 u193 u194 u195 u196 u197 u198 u199 u200 u201 u202 u203 u204 u205 u206 u207 u208 u209 u210 u211 u212 u213 u214 u215 u216 u217 u218 u219 u220 u221 u222 u223 u224 u225 u226 u227 u228 u229 u230 u231 u232 u233 u234 u235 u236 u237 u238 u239 u240 u241 u242 : Value} {wq : World} (hwb : w3.heap.size ≤ wb) (hwn : hb ≠ wb) (HWs : Hid (∀ i, 16 ≤ i → W i = sig (W (i - 2)) 17 19 10 + W (i - 7) + sig (W (i - 15)) 7 18 3 + W (i - 16)))
    (hW0 : wq.rowIs wb 77 64 (fun i => .int .u32 (if i < 16 then ((W i).toNat : Int) else 0))) (hH0 : wq.rowIs hb 75 8 (w32 st)) (hg0 : w3.grownBy wq (some hb))
    (hK : ∀ (x11 x12 x13 x80 x81 x82 x83 x84 x85 x86 x87 x88 x89 x90 x91 x92 x93 x94 x95 x96 x97 x98 x99 x100 x101 x102 x103 x104 x105 x106 x107 x108 x109 x110 x111 x112 x113 x114 x115 x116 x117 x118 x119 x120 x121 x122 x123 x124 x125 x126 x127 x128 x129 x130 x131 x132 : Value) (w' : World), (w'.rowIs wb 77 64 (w32 W) ∧ w'.rowIs hb 75 8 (w32 st) ∧ w3.grownBy w' (some hb)) → Q (.exit 8) ⟨(List.toArray (u0 :: u1 :: u2 :: u3 :: u4 :: u5 :: u6 :: u7 :: u8 :: (.pointer (some ⟨wb, 0, none⟩)) :: u10 :: x11 :: x12 :: x13 :: u14 :: u15 :: u16 :: u17 :: u18 :: u19 :: u20 :: u21 :: u22 :: u23 :: u24 :: u25 :: u26 :: u27 :: u28 :: u29 :: u30 :: u31 :: u32 :: u33 :: u34 :: u35 :: u36 :: u37 :: u38 :: u39 :: u40 :: u41 :: u42 :: u43 :: u44 :: u45 :: u46 :: u47 :: u48 :: u49 :: u50 :: u51 :: u52 :: u53 :: u54 :: u55 :: u56 :: u57 :: u58 :: u59 :: u60 :: u61 :: u62 :: u63 :: u64 :: u65 :: u66 :: u67 :: u68 :: u69 :: u70 :: u71 :: u72 :: u73 :: u74 :: u75 :: u76 :: u77 :: u78 :: u79 :: x80 :: x81 :: x82 :: x83 :: x84 :: x85 :: x86 :: x87 :: x88 :: x89 :: x90 :: x91 :: x92 :: x93 :: x94 :: x95 :: x96 :: x97 :: x98 :: x99 :: x100 :: x101 :: x102 :: x103 :: x104 :: x105 :: x106 :: x107 :: x108 :: x109 :: x110 :: x111 :: x112 :: x113 :: x114 :: x115 :: x116 :: x117 :: x118 :: x119 :: x120 :: x121 :: x122 :: x123 :: x124 :: x125 :: x126 :: x127 :: x128 :: x129 :: x130 :: x131 :: x132 :: u133 :: u134 :: u135 :: u136 :: u137 :: u138 :: u139 :: u140 :: u141 :: u142 :: u143 :: u144 :: u145 :: u146 :: u147 :: u148 :: u149 :: u150 :: u151 :: u152 :: u153 :: u154 :: u155 :: u156 :: u157 :: u158 :: u159 :: u160 :: u161 :: u162 :: u163 :: u164 :: u165 :: u166 :: u167 :: u168 :: u169 :: u170 :: u171 :: u172 :: u173 :: u174 :: u175 :: u176 :: u177 :: u178 :: u179 :: u180 :: u181 :: u182 :: u183 :: u184 :: u185 :: u186 :: u187 :: u188 :: u189 :: u190 :: u191 :: u192 :: u193 :: u194 :: u195 :: u196 :: u197 :: u198 :: u199 :: u200 :: u201 :: u202 :: u203 :: u204 :: u205 :: u206 :: u207 :: u208 :: u209 :: u210 :: u211 :: u212 :: u213 :: u214 :: u215 :: u216 :: u217 :: u218 :: u219 :: u220 :: u221 :: u222 :: u223 :: u224 :: u225 :: u226 :: u227 :: u228 :: u229 :: u230 :: u231 :: u232 :: u233 :: u234 :: u235 :: u236 :: u237 :: u238 :: u239 :: u240 :: u241 :: u242 :: [])), []⟩ w') :
    Code.wp Try.prog (codeAt 8 Try.f34) Q ⟨(List.toArray (u0 :: u1 :: u2 :: u3 :: u4 :: u5 :: u6 :: u7 :: u8 :: (.pointer (some ⟨wb, 0, none⟩)) :: u10 :: (.int .i64 (16 : Int)) :: u12 :: u13 :: u14 :: u15 :: u16 :: u17 :: u18 :: u19 :: u20 :: u21 :: u22 :: u23 :: u24 :: u25 :: u26 :: u27 :: u28 :: u29 :: u30 :: u31 :: u32 :: u33 :: u34 :: u35 :: u36 :: u37 :: u38 :: u39 :: u40 :: u41 :: u42 :: u43 :: u44 :: u45 :: u46 :: u47 :: u48 :: u49 :: u50 :: u51 :: u52 :: u53 :: u54 :: u55 :: u56 :: u57 :: u58 :: u59 :: u60 :: u61 :: u62 :: u63 :: u64 :: u65 :: u66 :: u67 :: u68 :: u69 :: u70 :: u71 :: u72 :: u73 :: u74 :: u75 :: u76 :: u77 :: u78 :: u79 :: u80 :: u81 :: u82 :: u83 :: u84 :: u85 :: u86 :: u87 :: u88 :: u89 :: u90 :: u91 :: u92 :: u93 :: u94 :: u95 :: u96 :: u97 :: u98 :: u99 :: u100 :: u101 :: u102 :: u103 :: u104 :: u105 :: u106 :: u107 :: u108 :: u109 :: u110 :: u111 :: u112 :: u113 :: u114 :: u115 :: u116 :: u117 :: u118 :: u119 :: u120 :: u121 :: u122 :: u123 :: u124 :: u125 :: u126 :: u127 :: u128 :: u129 :: u130 :: u131 :: u132 :: u133 :: u134 :: u135 :: u136 :: u137 :: u138 :: u139 :: u140 :: u141 :: u142 :: u143 :: u144 :: u145 :: u146 :: u147 :: u148 :: u149 :: u150 :: u151 :: u152 :: u153 :: u154 :: u155 :: u156 :: u157 :: u158 :: u159 :: u160 :: u161 :: u162 :: u163 :: u164 :: u165 :: u166 :: u167 :: u168 :: u169 :: u170 :: u171 :: u172 :: u173 :: u174 :: u175 :: u176 :: u177 :: u178 :: u179 :: u180 :: u181 :: u182 :: u183 :: u184 :: u185 :: u186 :: u187 :: u188 :: u189 :: u190 :: u191 :: u192 :: u193 :: u194 :: u195 :: u196 :: u197 :: u198 :: u199 :: u200 :: u201 :: u202 :: u203 :: u204 :: u205 :: u206 :: u207 :: u208 :: u209 :: u210 :: u211 :: u212 :: u213 :: u214 :: u215 :: u216 :: u217 :: u218 :: u219 :: u220 :: u221 :: u222 :: u223 :: u224 :: u225 :: u226 :: u227 :: u228 :: u229 :: u230 :: u231 :: u232 :: u233 :: u234 :: u235 :: u236 :: u237 :: u238 :: u239 :: u240 :: u241 :: u242 :: [])), []⟩ wq := by
  conv => arg 2; whnf
  go_loopw [11] (fun i wr => ∃ t : Nat, 16 ≤ t ∧ t ≤ 64 ∧ i = .int .i64 t ∧ wr.rowIs wb 77 64 (fun i => .int .u32 (if i < t then ((W i).toNat : Int) else 0)) ∧
    wr.rowIs hb 75 8 (w32 st) ∧ w3.grownBy wr (some hb)) (fun i _ => 64 - (intOf i).toNat)
  case atStart => exact ⟨16, by omega, by omega, rfl, hW0, hH0, hg0⟩
  case round =>
    clear hW0 hH0 hg0
    obtain ⟨t, ht0, ht, rfl, hWr, hH, hg⟩ := hrel
    by_cases hlt5 : t < 64
    · clear hK
      have c15 := hWr.cell (i := t - 15) (by omega)
      have c2 := hWr.cell (i := t - 2) (by omega)
      have c7 := hWr.cell (i := t - 7) (by omega)
      have c16 := hWr.cell (i := t - 16) (by omega)
      have c0 := hWr.cell (i := t) (by omega)
      rw [if_pos (by omega)] at c15 c2 c7 c16
      rw [if_neg (by omega)] at c0
      have hfr := hWr.frozen t
      have b1 : (15 : Int) ≤ (t : Int) := by omega
      have b2 : (t : Int) < 64 := by omega
      have hs : IntKind.u32.signed = false := rfl
      go_wp2
      go_quiet ((go_at_call 50; exact Calls.quiet_of (rot32_lit _ _ _ (by omega) (by omega))))
      clear c15 c2 c7 c16 c0 hfr
      replace hWr : (wr.drewN nq).rowIs wb 77 64 _ := hWr
      replace hH : (wr.drewN nq).rowIs hb 75 8 _ := hH
      replace hg := gb_drew hg nq
      generalize wr.drewN nq = wz at hWr hH hg ⊢
      have c2 := hWr.cell (i := t - 2) (by omega)
      have c7 := hWr.cell (i := t - 7) (by omega)
      have c16 := hWr.cell (i := t - 16) (by omega)
      have c0 := hWr.cell (i := t) (by omega)
      rw [if_pos (by omega)] at c2 c7 c16
      rw [if_neg (by omega)] at c0
      have hfr := hWr.frozen t
      obtain ⟨S1, hS1⟩ : ∃ S1, S1 = sig (W (t - 15)) 7 18 3 := ⟨_, rfl⟩
      have e1 : bits .xor .u32 (bits .xor .u32 (rotr (W (t - 15)) 7).toNat (rotr (W (t - 15)) 18).toNat) (((W (t - 15)).toNat : Int) / 8) = (S1.toNat : Int) := by rw [hS1]; exact sig_val32 _ 7 18 3
      rw [e1]
      have HS1 := Lib.hid hS1
      clear hS1 e1
      go_wp2
      go_quiet ((go_at_call 50; exact Calls.quiet_of (rot32_lit _ _ _ (by omega) (by omega))))
      obtain ⟨S2, hS2⟩ : ∃ S2, S2 = sig (W (t - 2)) 17 19 10 := ⟨_, rfl⟩
      have e2 : bits .xor .u32 (bits .xor .u32 (rotr (W (t - 2)) 17).toNat (rotr (W (t - 2)) 19).toNat) (((W (t - 2)).toNat : Int) / 1024) = (S2.toNat : Int) := by rw [hS2]; exact sig_val32 _ 17 19 10
      rw [e2]
      have HS2 := Lib.hid hS2
      clear hS2 e2 c2 c7 c16 c0 hfr
      replace hWr : (wz.drewN nq).rowIs wb 77 64 _ := hWr
      replace hH : (wz.drewN nq).rowIs hb 75 8 _ := hH
      replace hg := gb_drew hg nq
      generalize wz.drewN nq = wy at hWr hH hg ⊢
      have c7 := hWr.cell (i := t - 7) (by omega)
      have c16 := hWr.cell (i := t - 16) (by omega)
      have c0 := hWr.cell (i := t) (by omega)
      rw [if_pos (by omega)] at c7 c16
      rw [if_neg (by omega)] at c0
      have hfr := hWr.frozen t
      have w16 : IntKind.i64.wrap ((t : Int) - 16) = ((t - 16 : Nat) : Int) := by rw [IntWalk.i64_in _ (by omega)]; omega
      have w7 : IntKind.i64.wrap ((t : Int) - 7) = ((t - 7 : Nat) : Int) := by rw [IntWalk.i64_in _ (by omega)]; omega
      have m16 : ((t - 16 : Nat) : Int) < 64 := by omega
      have m7 : ((t - 7 : Nat) : Int) < 64 := by omega
      go_wp2
      replace hWr : wy.drew.rowIs wb 77 64 _ := hWr
      refine wp_noPan ?_
      refine wp_region_lins [(0, some [15]), (1, some [15]), (2, some [15]), (3, some [15]), (4, some [15]), (5, some [15]), (6, some [15]), (7, some [15]), (8, some [15]), (9, some [15]), (10, some [15]), (11, some [15]), (12, some [15]), (13, some [15]), (14, some [15]), (15, none)] (fun _ w' => w' = wy.drew) (by kernel_rfl) (by kernel_rfl) (by decide) (by kernel_rfl) (fun d _ _ _ _ h => by cases d <;> exact h) (fun _ _ => rfl) ?_
      refine lins_read 118 (Op.move (Operand.tmp 11)) 3 _ rfl rfl rfl rfl rfl (fun w0 hw0 => by unfold mkOp; go_simp; all_goals (with_reducible rfl)) ?_
      simp only [Act.put, List.setIfInBounds_toArray, List.set_cons_zero, List.set_cons_succ]
      refine lins_read 119 (Op.move (Operand.tmp 11)) 3 _ rfl rfl rfl rfl rfl (fun w0 hw0 => by unfold mkOp; go_simp; all_goals (with_reducible rfl)) ?_
      simp only [Act.put, List.setIfInBounds_toArray, List.set_cons_zero, List.set_cons_succ]
      refine lins_read 120 (Op.binOp BinOp.sub 3 (Operand.tmp 119) (Operand.const (Value.int IntKind.i64 16)) 3) 3 _ rfl rfl rfl rfl rfl (fun w0 hw0 => by unfold mkOp; go_simp; all_goals (with_reducible rfl)) ?_
      simp only [Act.put, List.setIfInBounds_toArray, List.set_cons_zero, List.set_cons_succ]
      refine lins_read 121 (Op.indexAddr 77 (Operand.tmp 9) (Operand.tmp 120)) 0 _ rfl rfl rfl rfl rfl (fun w0 hw0 => by unfold mkOp; go_simp; all_goals (with_reducible rfl)) ?_
      simp only [Act.put, List.setIfInBounds_toArray, List.set_cons_zero, List.set_cons_succ]
      refine lins_read 122 (Op.load 74 (Operand.tmp 121)) 74 (.int .u32 ((W (t - 16)).toNat : Int)) rfl rfl rfl rfl rfl (fun w0 hw0 => by obtain rfl := hw0 15 (by simp); exact exec_load_cell _ _ _ _ rfl (by kernel_rfl) c16) ?_
      simp only [Act.put, List.setIfInBounds_toArray, List.set_cons_zero, List.set_cons_succ]
      refine lins_read 123 (Op.move (Operand.tmp 12)) 74 _ rfl rfl rfl rfl rfl (fun w0 hw0 => by unfold mkOp; go_simp; all_goals (with_reducible rfl)) ?_
      simp only [Act.put, List.setIfInBounds_toArray, List.set_cons_zero, List.set_cons_succ]
      refine lins_read 124 (Op.binOp BinOp.add 74 (Operand.tmp 122) (Operand.tmp 123) 74) 74 _ rfl rfl rfl rfl rfl (fun w0 hw0 => by unfold mkOp; go_simp; all_goals (with_reducible rfl)) ?_
      simp only [Act.put, List.setIfInBounds_toArray, List.set_cons_zero, List.set_cons_succ]
      refine lins_read 125 (Op.move (Operand.tmp 11)) 3 _ rfl rfl rfl rfl rfl (fun w0 hw0 => by unfold mkOp; go_simp; all_goals (with_reducible rfl)) ?_
      simp only [Act.put, List.setIfInBounds_toArray, List.set_cons_zero, List.set_cons_succ]
      refine lins_read 126 (Op.binOp BinOp.sub 3 (Operand.tmp 125) (Operand.const (Value.int IntKind.i64 7)) 3) 3 _ rfl rfl rfl rfl rfl (fun w0 hw0 => by unfold mkOp; go_simp; all_goals (with_reducible rfl)) ?_
      simp only [Act.put, List.setIfInBounds_toArray, List.set_cons_zero, List.set_cons_succ]
      refine lins_read 127 (Op.indexAddr 77 (Operand.tmp 9) (Operand.tmp 126)) 0 _ rfl rfl rfl rfl rfl (fun w0 hw0 => by unfold mkOp; go_simp; all_goals (with_reducible rfl)) ?_
      simp only [Act.put, List.setIfInBounds_toArray, List.set_cons_zero, List.set_cons_succ]
      refine lins_read 128 (Op.load 74 (Operand.tmp 127)) 74 (.int .u32 ((W (t - 7)).toNat : Int)) rfl rfl rfl rfl rfl (fun w0 hw0 => by obtain rfl := hw0 15 (by simp); exact exec_load_cell _ _ _ _ rfl (by kernel_rfl) c7) ?_
      simp only [Act.put, List.setIfInBounds_toArray, List.set_cons_zero, List.set_cons_succ]
      refine lins_read 129 (Op.binOp BinOp.add 74 (Operand.tmp 124) (Operand.tmp 128) 74) 74 _ rfl rfl rfl rfl rfl (fun w0 hw0 => by unfold mkOp; go_simp; all_goals (with_reducible rfl)) ?_
      simp only [Act.put, List.setIfInBounds_toArray, List.set_cons_zero, List.set_cons_succ]
      refine lins_read 130 (Op.move (Operand.tmp 13)) 74 _ rfl rfl rfl rfl rfl (fun w0 hw0 => by unfold mkOp; go_simp; all_goals (with_reducible rfl)) ?_
      simp only [Act.put, List.setIfInBounds_toArray, List.set_cons_zero, List.set_cons_succ]
      refine lins_read 131 (Op.binOp BinOp.add 74 (Operand.tmp 129) (Operand.tmp 130) 74) 74 _ rfl rfl rfl rfl rfl (fun w0 hw0 => by unfold mkOp; go_simp; all_goals (with_reducible rfl)) ?_
      simp only [Act.put, List.setIfInBounds_toArray, List.set_cons_zero, List.set_cons_succ]
      refine lins_read 132 (Op.indexAddr 77 (Operand.tmp 9) (Operand.tmp 118)) 0 _ rfl rfl rfl rfl rfl (fun w0 hw0 => by unfold mkOp; go_simp; all_goals (with_reducible rfl)) ?_
      simp only [Act.put, List.setIfInBounds_toArray, List.set_cons_zero, List.set_cons_succ]
      refine lins_store_cell 74 (.tmp 132) (.tmp 131) rfl rfl rfl rfl hWr rfl rfl (by kernel_rfl) rfl rfl (by omega) ?_
      refine ⟨fun _ _ => True, fun c hc => (by cases hc), ?_⟩
      try simp only [Act.put, List.setIfInBounds_toArray, List.set_cons_zero, List.set_cons_succ]
      refine lins_end ?_
      simp only [NoPan]
      go_wp2
      go_roundw
      case rel =>
        (try ((repeat apply Exists.intro); refine ⟨?_, rfl⟩))
        refine ⟨t + 1, by omega, by omega, by go_num, (hWr.set t _).congr fun i hi => ?_, hH.setOther hwn _, ?_⟩
        · show (if i = t then _ else _) = _
          by_cases e : i = t
          · subst e
            rw [if_pos rfl, if_pos (by omega)]
            refine congrArg (Value.int .u32) ?_
            rw [HWs.out i ht0, ← HS1.out, ← HS2.out]
            exact ref_add4_32 _ _ _ _
          · rw [if_neg e]
            by_cases h2 : i < t
            · rw [if_pos h2, if_pos (by omega)]
            · rw [if_neg h2, if_neg (by omega)]
        · first | exact gb_set (gb_drew hg 1) hwb _ | exact gb_set hg hwb _ | exact gb_drew (gb_set (gb_drew hg _) hwb _) _ | exact gb_drew (gb_set hg hwb _) _ | exact gb_set (gb_drew hg _) hwb _
      case measure => simp [intOf]; omega
    · obtain rfl : t = 64 := by omega
      go_wp2
      exact ⟨hWr.congr fun i hi => by rw [if_pos hi]; rfl, hH, hg⟩

end Go.Proofs.Ytclbfbkbmiijnaa

/- The document's sums: the rounds. -/
set_option linter.unusedSimpArgs false
set_option linter.unusedVariables false
namespace Go.Proofs.Ytclbfbkbmiijnaa
open Go.RowKit Go.Deep

set_option maxHeartbeats 16000000 in
set_option maxRecDepth 100000 in
theorem ref256_L6 {Q : Exit → Act → World → Prop} (w3 : World) (rb hb wb vb : Nat) (W : Nat → BitVec 32) (s0 : S8 32) {u0 u1 u2 u4 u5 u6 u7 u8 u10 u11 u12 u13 u16 u17 u18 u19 u20 u21 u22 u23 u24 u25 u26 u27 u28 u29 u30 u31 u32 u33 u34 u35 u36 u37 u38 u39 u40 u41 u42 u43 u44 u45 u46 u47 u48 u49 u50 u51 u52 u53 u54 u55 u56 u57 u58 u59 u60 u61 u62 u63 u64 u65 u66 u67 u68 u69 u70 u71 u72 u73 u74 u75 u76 u77 u78 u79 u80 u81 u82 u83 u84 u85 u86 u87 u88 u89 u90 u91 u92 u93 u94 u95 u96 u97 u98 u99 u100 u101 u102 u103 u104 u105 u106 u107 u108 u109 u110 u111 u112 u113 u114 u115 u116 u117 u118 u119 u120 u121 u122 u123 u124 u125 u126 u127 u128 u129 u130 u131 u132 u133 u134 u135 u136 u137 u138 u139 u140 u141 u142 u143 u144 u145 u146 u147 u148 u149 u150 u151 u152 u153 u154 u155 u156 u157 u158 u159 u160 u161 u162 u163 u164 u165 u166 u167 u168 u169 u170 u171 u172 u173 u174 u175 u176 u177 u178 u179 u180 u181 u182 u183 u184 u185 u186 u187 u188 u189 u190 u191 u192 u193 u194 u195 u196 u197 u198 u199 u200 u201 u202 u203 u204 u205 u206 u207 u208 u209 u210 u211 u212 u213 u214 u215 u216 u217 u218 u219 u220 u221 u222 u223 u224 u225 u226 u227 u228 u229 u230 u231 u232 u233 u234 u235 u236 u237 u238 u239 u240 u241 u242 : Value} {wq : World} (hvb : w3.heap.size ≤ vb) (hvn : hb ≠ vb) (hwv : wb ≠ vb) (hrv : rb ≠ vb)
    (hV0 : wq.rowIs vb 75 8 (w32 s0.at)) (hW0 : wq.rowIs wb 77 64 (w32 W)) (hR0 : wq.rowIs rb 70 80 (w64 K64)) (hH0 : wq.rowIs hb 75 8 (w32 s0.at)) (hg0 : w3.grownBy wq (some hb))
    (hK : ∀ (x15 x16 x17 x18 x19 x134 x135 x136 x137 x138 x139 x140 x141 x142 x143 x144 x145 x146 x147 x148 x149 x150 x151 x152 x153 x154 x155 x156 x157 x158 x159 x160 x161 x162 x163 x164 x165 x166 x167 x168 x169 x170 x171 x172 x173 x174 x175 x176 x177 x178 x179 x180 x181 x182 x183 x184 x185 x186 x187 x188 x189 x190 x191 x192 x193 x194 x195 x196 x197 x198 x199 x200 x201 x202 x203 x204 x205 x206 x207 x208 x209 x210 x211 x212 x213 x214 x215 x216 x217 : Value) (w' : World), (w'.rowIs vb 75 8 (w32 (k256.rnd W s0 64).at) ∧ w'.rowIs wb 77 64 (w32 W) ∧ w'.rowIs rb 70 80 (w64 K64) ∧ w'.rowIs hb 75 8 (w32 s0.at) ∧ w3.grownBy w' (some hb)) → Q (.exit 10) ⟨(List.toArray (u0 :: u1 :: u2 :: (.pointer (some ⟨rb, 0, none⟩)) :: u4 :: u5 :: u6 :: u7 :: u8 :: (.pointer (some ⟨wb, 0, none⟩)) :: u10 :: u11 :: u12 :: u13 :: (.pointer (some ⟨vb, 0, none⟩)) :: x15 :: x16 :: x17 :: x18 :: x19 :: u20 :: u21 :: u22 :: u23 :: u24 :: u25 :: u26 :: u27 :: u28 :: u29 :: u30 :: u31 :: u32 :: u33 :: u34 :: u35 :: u36 :: u37 :: u38 :: u39 :: u40 :: u41 :: u42 :: u43 :: u44 :: u45 :: u46 :: u47 :: u48 :: u49 :: u50 :: u51 :: u52 :: u53 :: u54 :: u55 :: u56 :: u57 :: u58 :: u59 :: u60 :: u61 :: u62 :: u63 :: u64 :: u65 :: u66 :: u67 :: u68 :: u69 :: u70 :: u71 :: u72 :: u73 :: u74 :: u75 :: u76 :: u77 :: u78 :: u79 :: u80 :: u81 :: u82 :: u83 :: u84 :: u85 :: u86 :: u87 :: u88 :: u89 :: u90 :: u91 :: u92 :: u93 :: u94 :: u95 :: u96 :: u97 :: u98 :: u99 :: u100 :: u101 :: u102 :: u103 :: u104 :: u105 :: u106 :: u107 :: u108 :: u109 :: u110 :: u111 :: u112 :: u113 :: u114 :: u115 :: u116 :: u117 :: u118 :: u119 :: u120 :: u121 :: u122 :: u123 :: u124 :: u125 :: u126 :: u127 :: u128 :: u129 :: u130 :: u131 :: u132 :: u133 :: x134 :: x135 :: x136 :: x137 :: x138 :: x139 :: x140 :: x141 :: x142 :: x143 :: x144 :: x145 :: x146 :: x147 :: x148 :: x149 :: x150 :: x151 :: x152 :: x153 :: x154 :: x155 :: x156 :: x157 :: x158 :: x159 :: x160 :: x161 :: x162 :: x163 :: x164 :: x165 :: x166 :: x167 :: x168 :: x169 :: x170 :: x171 :: x172 :: x173 :: x174 :: x175 :: x176 :: x177 :: x178 :: x179 :: x180 :: x181 :: x182 :: x183 :: x184 :: x185 :: x186 :: x187 :: x188 :: x189 :: x190 :: x191 :: x192 :: x193 :: x194 :: x195 :: x196 :: x197 :: x198 :: x199 :: x200 :: x201 :: x202 :: x203 :: x204 :: x205 :: x206 :: x207 :: x208 :: x209 :: x210 :: x211 :: x212 :: x213 :: x214 :: x215 :: x216 :: x217 :: u218 :: u219 :: u220 :: u221 :: u222 :: u223 :: u224 :: u225 :: u226 :: u227 :: u228 :: u229 :: u230 :: u231 :: u232 :: u233 :: u234 :: u235 :: u236 :: u237 :: u238 :: u239 :: u240 :: u241 :: u242 :: [])), []⟩ w') :
    Code.wp Try.prog (codeAt 10 Try.f34) Q ⟨(List.toArray (u0 :: u1 :: u2 :: (.pointer (some ⟨rb, 0, none⟩)) :: u4 :: u5 :: u6 :: u7 :: u8 :: (.pointer (some ⟨wb, 0, none⟩)) :: u10 :: u11 :: u12 :: u13 :: (.pointer (some ⟨vb, 0, none⟩)) :: (.int .i64 (0 : Int)) :: u16 :: u17 :: u18 :: u19 :: u20 :: u21 :: u22 :: u23 :: u24 :: u25 :: u26 :: u27 :: u28 :: u29 :: u30 :: u31 :: u32 :: u33 :: u34 :: u35 :: u36 :: u37 :: u38 :: u39 :: u40 :: u41 :: u42 :: u43 :: u44 :: u45 :: u46 :: u47 :: u48 :: u49 :: u50 :: u51 :: u52 :: u53 :: u54 :: u55 :: u56 :: u57 :: u58 :: u59 :: u60 :: u61 :: u62 :: u63 :: u64 :: u65 :: u66 :: u67 :: u68 :: u69 :: u70 :: u71 :: u72 :: u73 :: u74 :: u75 :: u76 :: u77 :: u78 :: u79 :: u80 :: u81 :: u82 :: u83 :: u84 :: u85 :: u86 :: u87 :: u88 :: u89 :: u90 :: u91 :: u92 :: u93 :: u94 :: u95 :: u96 :: u97 :: u98 :: u99 :: u100 :: u101 :: u102 :: u103 :: u104 :: u105 :: u106 :: u107 :: u108 :: u109 :: u110 :: u111 :: u112 :: u113 :: u114 :: u115 :: u116 :: u117 :: u118 :: u119 :: u120 :: u121 :: u122 :: u123 :: u124 :: u125 :: u126 :: u127 :: u128 :: u129 :: u130 :: u131 :: u132 :: u133 :: u134 :: u135 :: u136 :: u137 :: u138 :: u139 :: u140 :: u141 :: u142 :: u143 :: u144 :: u145 :: u146 :: u147 :: u148 :: u149 :: u150 :: u151 :: u152 :: u153 :: u154 :: u155 :: u156 :: u157 :: u158 :: u159 :: u160 :: u161 :: u162 :: u163 :: u164 :: u165 :: u166 :: u167 :: u168 :: u169 :: u170 :: u171 :: u172 :: u173 :: u174 :: u175 :: u176 :: u177 :: u178 :: u179 :: u180 :: u181 :: u182 :: u183 :: u184 :: u185 :: u186 :: u187 :: u188 :: u189 :: u190 :: u191 :: u192 :: u193 :: u194 :: u195 :: u196 :: u197 :: u198 :: u199 :: u200 :: u201 :: u202 :: u203 :: u204 :: u205 :: u206 :: u207 :: u208 :: u209 :: u210 :: u211 :: u212 :: u213 :: u214 :: u215 :: u216 :: u217 :: u218 :: u219 :: u220 :: u221 :: u222 :: u223 :: u224 :: u225 :: u226 :: u227 :: u228 :: u229 :: u230 :: u231 :: u232 :: u233 :: u234 :: u235 :: u236 :: u237 :: u238 :: u239 :: u240 :: u241 :: u242 :: [])), []⟩ wq := by
  conv => arg 2; whnf
  go_loopw [15] (fun i wr => ∃ (t : Nat) (s' : S8 32), t ≤ 64 ∧ Hid (s' = k256.rnd W s0 t) ∧ i = .int .i64 t ∧ wr.rowIs vb 75 8 (w32 s'.at) ∧ wr.rowIs wb 77 64 (w32 W) ∧
    wr.rowIs rb 70 80 (w64 K64) ∧ wr.rowIs hb 75 8 (w32 s0.at) ∧ w3.grownBy wr (some hb)) (fun i _ => 64 - (intOf i).toNat)
  case atStart => exact ⟨0, s0, by omega, rfl, rfl, hV0, hW0, hR0, hH0, hg0⟩
  case round =>
    clear hV0 hW0 hR0 hH0 hg0
    obtain ⟨t, s', ht, HS, rfl, hV, hWr, hRr, hH, hg⟩ := hrel
    by_cases hlt6 : t < 64
    · clear hK
      have v0 : wr.cell? ⟨vb, 0, none⟩ = some (.int .u32 (s'.a.toNat : Int)) := hV.cell (i := 0) (by omega)
      have v1 : wr.cell? ⟨vb, 1, none⟩ = some (.int .u32 (s'.b.toNat : Int)) := hV.cell (i := 1) (by omega)
      have v2 : wr.cell? ⟨vb, 2, none⟩ = some (.int .u32 (s'.c.toNat : Int)) := hV.cell (i := 2) (by omega)
      have v3 : wr.cell? ⟨vb, 3, none⟩ = some (.int .u32 (s'.d.toNat : Int)) := hV.cell (i := 3) (by omega)
      have v4 : wr.cell? ⟨vb, 4, none⟩ = some (.int .u32 (s'.e.toNat : Int)) := hV.cell (i := 4) (by omega)
      have v5 : wr.cell? ⟨vb, 5, none⟩ = some (.int .u32 (s'.f.toNat : Int)) := hV.cell (i := 5) (by omega)
      have v6 : wr.cell? ⟨vb, 6, none⟩ = some (.int .u32 (s'.g.toNat : Int)) := hV.cell (i := 6) (by omega)
      have v7 : wr.cell? ⟨vb, 7, none⟩ = some (.int .u32 (s'.h.toNat : Int)) := hV.cell (i := 7) (by omega)
      have cw : wr.cell? ⟨wb, t, none⟩ = some (.int .u32 ((W t).toNat : Int)) := hWr.cell (by omega)
      have ck : wr.cell? ⟨rb, t, none⟩ = some (.int .u64 ((K64 t).toNat : Int)) := hRr.cell (by omega)
      have b2 : (t : Int) < 64 := by omega
      have b3 : (t : Int) < 80 := by omega
      have hs : IntKind.u32.signed = false := rfl
      have hs2 : IntKind.u64.signed = false := rfl
      go_wp2
      go_quiet ((go_at_call 50; exact Calls.quiet_of (rot32_lit _ _ _ (by omega) (by omega))))
      clear v0 v1 v2 v3 v4 v5 v6 v7 cw ck
      replace hWr : (wr.drewN nq).rowIs wb 77 64 _ := hWr
      replace hH : (wr.drewN nq).rowIs hb 75 8 _ := hH
      replace hV : (wr.drewN nq).rowIs vb 75 8 _ := hV
      replace hRr : (wr.drewN nq).rowIs rb 70 80 _ := hRr
      replace hg := gb_drew hg nq
      generalize wr.drewN nq = wz at hWr hH hV hRr hg ⊢
      have v0 : wz.cell? ⟨vb, 0, none⟩ = some (.int .u32 (s'.a.toNat : Int)) := hV.cell (i := 0) (by omega)
      have v1 : wz.cell? ⟨vb, 1, none⟩ = some (.int .u32 (s'.b.toNat : Int)) := hV.cell (i := 1) (by omega)
      have v2 : wz.cell? ⟨vb, 2, none⟩ = some (.int .u32 (s'.c.toNat : Int)) := hV.cell (i := 2) (by omega)
      have v3 : wz.cell? ⟨vb, 3, none⟩ = some (.int .u32 (s'.d.toNat : Int)) := hV.cell (i := 3) (by omega)
      have v4 : wz.cell? ⟨vb, 4, none⟩ = some (.int .u32 (s'.e.toNat : Int)) := hV.cell (i := 4) (by omega)
      have v5 : wz.cell? ⟨vb, 5, none⟩ = some (.int .u32 (s'.f.toNat : Int)) := hV.cell (i := 5) (by omega)
      have v6 : wz.cell? ⟨vb, 6, none⟩ = some (.int .u32 (s'.g.toNat : Int)) := hV.cell (i := 6) (by omega)
      have v7 : wz.cell? ⟨vb, 7, none⟩ = some (.int .u32 (s'.h.toNat : Int)) := hV.cell (i := 7) (by omega)
      obtain ⟨tt, htt⟩ : ∃ tt : BitVec 32, tt = W t + (s'.h + tri s'.e 6 11 25 + chz s'.e s'.f s'.g + K32 t) := ⟨_, rfl⟩
      have ett := ref_t32 (W t) s'.h (tri s'.e 6 11 25) (chz s'.e s'.f s'.g) t
      have ht1 := tri_val32 s'.e
      have ht3 := chz_val32 s'.e s'.f s'.g
      rw [ht1, ht3]
      rw [← htt] at ett
      rw [ett]
      have HTT := Lib.hid htt
      clear htt ett ht1 ht3
      go_wp2
      go_quiet ((go_at_call 50; exact Calls.quiet_of (rot32_lit _ _ _ (by omega) (by omega))))
      obtain ⟨uu, huu⟩ : ∃ uu : BitVec 32, uu = tri s'.a 2 13 22 + maj s'.a s'.b s'.c := ⟨_, rfl⟩
      have euu := ref_u32 (tri s'.a 2 13 22) (maj s'.a s'.b s'.c)
      have ht2 := tri_val32 s'.a
      have ht4 := maj_val32 s'.a s'.b s'.c
      rw [ht2, ht4]
      rw [← huu] at euu
      rw [euu]
      have HUU := Lib.hid huu
      clear huu euu ht2 ht4
      clear v7
      replace hWr : (wz.drewN nq).rowIs wb 77 64 _ := hWr
      replace hH : (wz.drewN nq).rowIs hb 75 8 _ := hH
      replace hV : (wz.drewN nq).rowIs vb 75 8 _ := hV
      replace hRr : (wz.drewN nq).rowIs rb 70 80 _ := hRr
      replace hg := gb_drew hg nq
      generalize wz.drewN nq = wy at hWr hH hV hRr hg ⊢
      clear v0 v1 v2 v3 v4 v5 v6
      have v0 : wy.cell? ⟨vb, 0, none⟩ = some (.int .u32 (s'.a.toNat : Int)) := hV.cell (i := 0) (by omega)
      have v1 : wy.cell? ⟨vb, 1, none⟩ = some (.int .u32 (s'.b.toNat : Int)) := hV.cell (i := 1) (by omega)
      have v2 : wy.cell? ⟨vb, 2, none⟩ = some (.int .u32 (s'.c.toNat : Int)) := hV.cell (i := 2) (by omega)
      have v3 : wy.cell? ⟨vb, 3, none⟩ = some (.int .u32 (s'.d.toNat : Int)) := hV.cell (i := 3) (by omega)
      have v4 : wy.cell? ⟨vb, 4, none⟩ = some (.int .u32 (s'.e.toNat : Int)) := hV.cell (i := 4) (by omega)
      have v5 : wy.cell? ⟨vb, 5, none⟩ = some (.int .u32 (s'.f.toNat : Int)) := hV.cell (i := 5) (by omega)
      have v6 : wy.cell? ⟨vb, 6, none⟩ = some (.int .u32 (s'.g.toNat : Int)) := hV.cell (i := 6) (by omega)
      have v7 : wy.cell? ⟨vb, 7, none⟩ = some (.int .u32 (s'.h.toNat : Int)) := hV.cell (i := 7) (by omega)
      go_wp2_with (first
        | refine wpList_build_arr rfl 75 _ rfl (arrOf 8 (sel32 (((tt.toNat : Int) + uu.toNat) % 4294967296) s'.a.toNat s'.b.toNat s'.c.toNat (((s'.d.toNat : Int) + tt.toNat) % 4294967296) s'.e.toNat s'.f.toNat s'.g.toNat)) (by kernel_rfl) ?_
        | (refine wpList_store_arr rfl 75 (.tmp 14) (.tmp 217) rfl 8 arr8_32 hV rfl rfl (by omega) (sel32_one _ _ _ _ _ _ _ _) ?_; intro w6 hV6 hg6 hs6))
      go_roundw
      case rel =>
        (try ((repeat apply Exists.intro); refine ⟨?_, rfl⟩))
        refine ⟨t + 1, k256.step (k256.num t) (W t) s', by omega, by rw [HS.out]; rfl, by go_num, hV6.congr fun i hi => ?_, gb_rowIs hWr hg6 hwv, gb_rowIs hRr hg6 hrv, gb_rowIs hH hg6 hvn, gb_row hg hg6 hvb⟩
        unfold putN
        rw [if_pos (by omega), Nat.sub_zero]
        refine sel32_state (k256.step (k256.num t) (W t) s') _ _ _ _ _ _ _ _ ?_ rfl rfl rfl ?_ rfl rfl rfl i hi
        · refine (add32 tt uu).trans ?_
          rw [HTT.out, HUU.out, ← BitVec.add_assoc]
          rfl
        · refine (add32 s'.d tt).trans ?_
          rw [HTT.out]
          rfl
      case measure => simp [intOf]; omega
    · obtain rfl : t = 64 := by omega
      go_wp2
      exact ⟨by rw [← HS.out]; exact hV, hWr, hRr, hH, hg⟩

end Go.Proofs.Ytclbfbkbmiijnaa

/- The document's sums: the state behind the rounds is added. -/
set_option linter.unusedSimpArgs false
set_option linter.unusedVariables false
namespace Go.Proofs.Ytclbfbkbmiijnaa
open Go.RowKit Go.Deep

set_option maxHeartbeats 16000000 in
set_option maxRecDepth 100000 in
theorem ref256_L7 {Q : Exit → Act → World → Prop} (w3 : World) (hb vb : Nat) (s0 s1 : S8 32) {u0 u1 u2 u3 u4 u6 u7 u8 u9 u10 u11 u12 u13 u15 u16 u17 u18 u19 u21 u22 u23 u24 u25 u26 u27 u28 u29 u30 u31 u32 u33 u34 u35 u36 u37 u38 u39 u40 u41 u42 u43 u44 u45 u46 u47 u48 u49 u50 u51 u52 u53 u54 u55 u56 u57 u58 u59 u60 u61 u62 u63 u64 u65 u66 u67 u68 u69 u70 u71 u72 u73 u74 u75 u76 u77 u78 u79 u80 u81 u82 u83 u84 u85 u86 u87 u88 u89 u90 u91 u92 u93 u94 u95 u96 u97 u98 u99 u100 u101 u102 u103 u104 u105 u106 u107 u108 u109 u110 u111 u112 u113 u114 u115 u116 u117 u118 u119 u120 u121 u122 u123 u124 u125 u126 u127 u128 u129 u130 u131 u132 u133 u134 u135 u136 u137 u138 u139 u140 u141 u142 u143 u144 u145 u146 u147 u148 u149 u150 u151 u152 u153 u154 u155 u156 u157 u158 u159 u160 u161 u162 u163 u164 u165 u166 u167 u168 u169 u170 u171 u172 u173 u174 u175 u176 u177 u178 u179 u180 u181 u182 u183 u184 u185 u186 u187 u188 u189 u190 u191 u192 u193 u194 u195 u196 u197 u198 u199 u200 u201 u202 u203 u204 u205 u206 u207 u208 u209 u210 u211 u212 u213 u214 u215 u216 u217 u218 u219 u220 u221 u222 u223 u224 u225 u226 u227 u228 u229 u230 u231 u232 u233 u234 u235 u236 u237 u238 u239 u240 u241 u242 : Value} {wq : World} (hvn : hb ≠ vb) (hV0 : wq.rowIs vb 75 8 (w32 s1.at)) (hH0 : wq.rowIs hb 75 8 (w32 s0.at)) (hg0 : w3.grownBy wq (some hb))
    (hK : ∀ (x20 x218 x219 x220 x221 x222 x223 x224 x225 x226 x227 x228 x229 x230 : Value) (w' : World), (w'.rowIs hb 75 8 (w32 (S8.add s0 s1).at) ∧ w3.grownBy w' (some hb)) → Q (.exit 12) ⟨(List.toArray (u0 :: u1 :: u2 :: u3 :: u4 :: (.pointer (some ⟨hb, 0, none⟩)) :: u6 :: u7 :: u8 :: u9 :: u10 :: u11 :: u12 :: u13 :: (.pointer (some ⟨vb, 0, none⟩)) :: u15 :: u16 :: u17 :: u18 :: u19 :: x20 :: u21 :: u22 :: u23 :: u24 :: u25 :: u26 :: u27 :: u28 :: u29 :: u30 :: u31 :: u32 :: u33 :: u34 :: u35 :: u36 :: u37 :: u38 :: u39 :: u40 :: u41 :: u42 :: u43 :: u44 :: u45 :: u46 :: u47 :: u48 :: u49 :: u50 :: u51 :: u52 :: u53 :: u54 :: u55 :: u56 :: u57 :: u58 :: u59 :: u60 :: u61 :: u62 :: u63 :: u64 :: u65 :: u66 :: u67 :: u68 :: u69 :: u70 :: u71 :: u72 :: u73 :: u74 :: u75 :: u76 :: u77 :: u78 :: u79 :: u80 :: u81 :: u82 :: u83 :: u84 :: u85 :: u86 :: u87 :: u88 :: u89 :: u90 :: u91 :: u92 :: u93 :: u94 :: u95 :: u96 :: u97 :: u98 :: u99 :: u100 :: u101 :: u102 :: u103 :: u104 :: u105 :: u106 :: u107 :: u108 :: u109 :: u110 :: u111 :: u112 :: u113 :: u114 :: u115 :: u116 :: u117 :: u118 :: u119 :: u120 :: u121 :: u122 :: u123 :: u124 :: u125 :: u126 :: u127 :: u128 :: u129 :: u130 :: u131 :: u132 :: u133 :: u134 :: u135 :: u136 :: u137 :: u138 :: u139 :: u140 :: u141 :: u142 :: u143 :: u144 :: u145 :: u146 :: u147 :: u148 :: u149 :: u150 :: u151 :: u152 :: u153 :: u154 :: u155 :: u156 :: u157 :: u158 :: u159 :: u160 :: u161 :: u162 :: u163 :: u164 :: u165 :: u166 :: u167 :: u168 :: u169 :: u170 :: u171 :: u172 :: u173 :: u174 :: u175 :: u176 :: u177 :: u178 :: u179 :: u180 :: u181 :: u182 :: u183 :: u184 :: u185 :: u186 :: u187 :: u188 :: u189 :: u190 :: u191 :: u192 :: u193 :: u194 :: u195 :: u196 :: u197 :: u198 :: u199 :: u200 :: u201 :: u202 :: u203 :: u204 :: u205 :: u206 :: u207 :: u208 :: u209 :: u210 :: u211 :: u212 :: u213 :: u214 :: u215 :: u216 :: u217 :: x218 :: x219 :: x220 :: x221 :: x222 :: x223 :: x224 :: x225 :: x226 :: x227 :: x228 :: x229 :: x230 :: u231 :: u232 :: u233 :: u234 :: u235 :: u236 :: u237 :: u238 :: u239 :: u240 :: u241 :: u242 :: [])), []⟩ w') :
    Code.wp Try.prog (codeAt 12 Try.f34) Q ⟨(List.toArray (u0 :: u1 :: u2 :: u3 :: u4 :: (.pointer (some ⟨hb, 0, none⟩)) :: u6 :: u7 :: u8 :: u9 :: u10 :: u11 :: u12 :: u13 :: (.pointer (some ⟨vb, 0, none⟩)) :: u15 :: u16 :: u17 :: u18 :: u19 :: (.int .i64 (0 : Int)) :: u21 :: u22 :: u23 :: u24 :: u25 :: u26 :: u27 :: u28 :: u29 :: u30 :: u31 :: u32 :: u33 :: u34 :: u35 :: u36 :: u37 :: u38 :: u39 :: u40 :: u41 :: u42 :: u43 :: u44 :: u45 :: u46 :: u47 :: u48 :: u49 :: u50 :: u51 :: u52 :: u53 :: u54 :: u55 :: u56 :: u57 :: u58 :: u59 :: u60 :: u61 :: u62 :: u63 :: u64 :: u65 :: u66 :: u67 :: u68 :: u69 :: u70 :: u71 :: u72 :: u73 :: u74 :: u75 :: u76 :: u77 :: u78 :: u79 :: u80 :: u81 :: u82 :: u83 :: u84 :: u85 :: u86 :: u87 :: u88 :: u89 :: u90 :: u91 :: u92 :: u93 :: u94 :: u95 :: u96 :: u97 :: u98 :: u99 :: u100 :: u101 :: u102 :: u103 :: u104 :: u105 :: u106 :: u107 :: u108 :: u109 :: u110 :: u111 :: u112 :: u113 :: u114 :: u115 :: u116 :: u117 :: u118 :: u119 :: u120 :: u121 :: u122 :: u123 :: u124 :: u125 :: u126 :: u127 :: u128 :: u129 :: u130 :: u131 :: u132 :: u133 :: u134 :: u135 :: u136 :: u137 :: u138 :: u139 :: u140 :: u141 :: u142 :: u143 :: u144 :: u145 :: u146 :: u147 :: u148 :: u149 :: u150 :: u151 :: u152 :: u153 :: u154 :: u155 :: u156 :: u157 :: u158 :: u159 :: u160 :: u161 :: u162 :: u163 :: u164 :: u165 :: u166 :: u167 :: u168 :: u169 :: u170 :: u171 :: u172 :: u173 :: u174 :: u175 :: u176 :: u177 :: u178 :: u179 :: u180 :: u181 :: u182 :: u183 :: u184 :: u185 :: u186 :: u187 :: u188 :: u189 :: u190 :: u191 :: u192 :: u193 :: u194 :: u195 :: u196 :: u197 :: u198 :: u199 :: u200 :: u201 :: u202 :: u203 :: u204 :: u205 :: u206 :: u207 :: u208 :: u209 :: u210 :: u211 :: u212 :: u213 :: u214 :: u215 :: u216 :: u217 :: u218 :: u219 :: u220 :: u221 :: u222 :: u223 :: u224 :: u225 :: u226 :: u227 :: u228 :: u229 :: u230 :: u231 :: u232 :: u233 :: u234 :: u235 :: u236 :: u237 :: u238 :: u239 :: u240 :: u241 :: u242 :: [])), []⟩ wq := by
  conv => arg 2; whnf
  go_loopw [20] (fun i wr => ∃ t : Nat, t ≤ 8 ∧ i = .int .i64 t ∧ wr.rowIs hb 75 8 (fun i => .int .u32 ((if i < t then s0.at i + s1.at i else s0.at i).toNat : Int)) ∧
    wr.rowIs vb 75 8 (w32 s1.at) ∧ w3.grownBy wr (some hb)) (fun i _ => 8 - (intOf i).toNat)
  case atStart => exact ⟨0, by omega, rfl, hH0.congr fun i _ => rfl, hV0, hg0⟩
  case round =>
    clear hV0 hH0 hg0
    obtain ⟨t, ht, rfl, hH, hV, hg⟩ := hrel
    by_cases hlt7 : t < 8
    · clear hK
      have c0 := hH.cell (i := t) (by omega)
      rw [if_neg (by omega)] at c0
      have c1 : wr.cell? ⟨vb, t, none⟩ = some (.int .u32 ((s1.at t).toNat : Int)) := hV.cell hlt7
      have hfr := hH.frozen t
      have b2 : (t : Int) < 8 := by omega
      go_wp2
      go_region
      go_wp2
      go_roundw
      case rel =>
        (try ((repeat apply Exists.intro); refine ⟨?_, rfl⟩))
        refine ⟨t + 1, by omega, by go_num, (hH.set t _).congr fun i hi => ?_, hV.setOther (Ne.symm hvn) _, ?_⟩
        · show (if i = t then _ else _) = _
          by_cases e : i = t
          · subst e
            rw [if_pos rfl, if_pos (by omega)]
            exact congrArg (Value.int .u32) (add32 _ _)
          · rw [if_neg e]
            by_cases h2 : i < t
            · rw [if_pos h2, if_pos (by omega)]
            · rw [if_neg h2, if_neg (by omega)]
        · first | exact gb_drew (gb_setb hg _) _ | exact gb_setb (gb_drew hg _) _ | exact gb_setb hg _
      case measure => simp [intOf]; omega
    · obtain rfl : t = 8 := by omega
      go_wp2
      refine ⟨hH.congr fun i hi => ?_, hg⟩
      rw [if_pos hi]
      show _ = Value.int .u32 (((S8.add s0 s1).at i).toNat : Int)
      rw [S8.at_add]

end Go.Proofs.Ytclbfbkbmiijnaa

/- The document's own sums. -/
set_option linter.unusedSimpArgs false
set_option linter.unusedVariables false
namespace Go.Proofs.Ytclbfbkbmiijnaa
open Go.RowKit Go.Deep

set_option maxHeartbeats 16000000 in
set_option maxRecDepth 100000 in
theorem ref256O_any (v : Value) (l : List UInt8) (w : World) (hv : Bs w v l) (hlen : l.length < 2 ^ 30) :
    Calls Try.prog 34 #[v] w fun e w' => ∃ v', e = .returned v' ∧ Owns w' w.heap.size v' (k256.sum l) ∧ Below w.heap.size w w' := by
  obtain ⟨a, n, cap, rfl, hn, hc1, hc2, hB0⟩ := hv.shape
  have HV := Lib.hid hB0
  have HN := Lib.hid hn
  have hn30 : n < 2 ^ 30 := by omega
  clear hv hB0 hn
  go_enter Try.func34, Try.ntmps34
  go_wp2_with (first
    | (go_at_call 47; refine (refRounds_any _).mono ?_; rintro e w1 ⟨rfl, hb1⟩
       have hR := rowIs_arr w1 80 (fun _ => .int .u64 0) 70
       have hb := hb1.alloc hb1.size (.cells (arrOf 80 fun _ => .int .u64 0) 70)
       have hsz1 := hb1.size
       clear hb1)
    | refine wpList_alloc_arr rfl 70 rfl (arrOf 80 fun _ => .int .u64 0) zero80 ?_
    | (refine wpList_store_arr rfl 70 (.tmp 3) (.tmp 23) rfl 80 arr80 hR rfl rfl (by omega) (fun _ _ => rfl) ?_; intro w2 hr2 hg2 hs2
       replace hb := hb.grown hg2 hb.size (by intro k hk; cases hk; exact hsz1)
       replace hR := hr2.congr (g := w64 K64) (fun i hi => by unfold putN; rw [if_pos (by omega)]; rfl)
       clear hr2 hg2 hs2)
    | (go_at_call 48; refine (refStart_any _).mono ?_; rintro e w3 ⟨rfl, hb3⟩
       have hlt1 := hR.lt
       replace hR := (hR.of_block (hb3.block _ hR.lt)).alloc (.cells (arrOf 8 fun _ => .int .u64 0) 72)
       replace hb := hb.trans (hb3.mono hb.size)
       have hsz3 := hb.size
       replace hb := hb.alloc hb.size (.cells (arrOf 8 fun _ => .int .u64 0) 72)
       have hF := rowIs_arr w3 8 (fun _ => .int .u64 0) 72
       have hne31 : w1.heap.size ≠ w3.heap.size := by have := hb3.size; omega
       clear hb3)
    | refine wpList_alloc_arr rfl 72 rfl (arrOf 8 fun _ => .int .u64 0) zero8_64 ?_
    | (refine wpList_store_arr rfl 72 (.tmp 4) (.tmp 24) rfl 8 arr8_64 hF rfl rfl (by omega) (fun _ _ => rfl) ?_; intro w4 hr4 hg4 hs4
       replace hR := hR.of_block (hg4.block _ hR.lt (fun e => hne31 (Option.some.inj e)))
       have hne41 : w4.heap.size ≠ w1.heap.size := by have := hR.lt; omega
       replace hR := hR.alloc (.cells (arrOf 8 fun _ => .int .u32 0) 75)
       replace hb := (hb.grown hg4 hb.size (by intro k hk; cases hk; exact hsz3))
       have hsz4 := hb.size
       replace hb := hb.alloc hb.size (.cells (arrOf 8 fun _ => .int .u32 0) 75)
       replace hF := (hr4.congr (g := w64 I64) (fun i hi => by unfold putN; rw [if_pos (by omega)]; rfl)).alloc (.cells (arrOf 8 fun _ => .int .u32 0) 75)
       have hH := rowIs_arr w4 8 (fun _ => .int .u32 0) 75
       have hne43 : w4.heap.size ≠ w3.heap.size := by rw [hs4, World.size_alloc]; omega
       clear hr4 hg4 hs4)
    | refine wpList_alloc_arr rfl 75 rfl (arrOf 8 fun _ => .int .u32 0) zero8_32 ?_)
  generalize w1.heap.size = rb at *
  generalize w3.heap.size = fb at *
  generalize w4.heap.size = hb' at *
  go_loopw [6] (fun i wr => ∃ j : Nat, j ≤ 8 ∧ i = .int .i64 j ∧ wr.rowIs hb' 75 8 (fun i => .int .u32 (if i < j then ((I32 i).toNat : Int) else 0)) ∧
    wr.rowIs fb 72 8 (w64 I64) ∧ wr.rowIs rb 70 80 (w64 K64) ∧ Below w.heap.size w wr) (fun i _ => 8 - (intOf i).toNat)
  case atStart => exact ⟨0, Nat.zero_le _, rfl, hH.congr fun i _ => rfl, hF, hR, hb⟩
  case round =>
    clear hH hF hR hb
    obtain ⟨j, hj, rfl, hH, hF, hR, hb⟩ := hrel
    by_cases hlt : j < 8
    · have hcell := hH.cell hlt
      have hfr := hH.frozen j
      have hf : wr.cell? ⟨fb, j, none⟩ = some (.int .u64 ((I64 j).toNat : Int)) := hF.cell hlt
      have hs : IntKind.u64.signed = false := rfl
      have hj8 : (j : Int) < 8 := by omega
      go_wp2
      go_roundw
      case rel =>
        refine ⟨j + 1, by omega, by go_num, (hH.set j _).congr fun i hi => ?_, hF.setOther (Ne.symm hne43) _, hR.setOther (Ne.symm hne41) _, hb.setCell hsz4 _⟩
        show (if i = j then _ else _) = _
        by_cases e : i = j
        · subst e
          rw [if_pos rfl, if_pos (by omega), I32_val]
          rfl
        · rw [if_neg e]
          by_cases h2 : i < j
          · rw [if_pos h2, if_pos (by omega)]
          · rw [if_neg h2, if_neg (by omega)]
      case measure => simp [intOf]; omega
    · obtain rfl : j = 8 := by omega
      replace hH : wr.rowIs hb' 75 8 (w32 k256.first.at) := hH.congr fun i hi => by
        rw [if_pos hi]
        show _ = Value.int .u32 (((S8.of I32).at i).toNat : Int)
        rw [S8.at_of _ _ hi]
      clear hF
      obtain ⟨w8, hw8⟩ : ∃ w8, w8 = wr := ⟨_, rfl⟩
      have hO := Owns.empty wr
      have hb8 : Below wr.heap.size wr (wr.alloc (.cells #[] 5)) := (Below.refl _ _).alloc (Nat.le_refl _) _
      have HB := Lib.hid ((HV.out.below hb (Nat.le_refl _)).below hb8 (Nat.le_refl _))
      go_wp2_with (first
        | (refine wpList_app rfl (.tmp 36) (.tmp 37) rfl wr.heap.size _ _ [] l hO HB.out rfl rfl (by simp; omega) (by simp) ?_; intro v5 w5 hO5 hg5
           have hb5 := hb8.grown hg5 (by simp) (Owns.block hO)
           have hB1 := Bs.one w5 128
           clear hO HB hg5)
        | (refine wpList_app rfl (.tmp 38) (.tmp 39) rfl wr.heap.size _ _ ([] ++ l) [128] (Owns.alloc hO5 _) hB1 rfl rfl (by simp; omega) (by have := hb5.size; simp; omega) ?_; intro v6 w6 hO6 hg6
           have hb6 := (hb5.alloc hb5.size (.cells #[.int .u8 ((128 : UInt8).toNat : Int)] 5)).grown hg6 (by have := hb5.size; simp; omega) (Owns.block hO5)
           clear hO5 hg6 hB1))
      have hR8 := hR
      have hH8 := hH
      have hbw8 := hb
      generalize hb8e : wr.heap.size = b8 at *
      have HN8 := Lib.hid hb8e
      clear hb8e hb8 hb5 hR hH hb
      have hbt : Below b8 wr w6 := hb6
      go_loopw [7] (fun m wq => ∃ z : Nat, z ≤ endRoom n 64 - 9 ∧ Owns wq b8 m ([] ++ l ++ [128] ++ List.replicate z 0) ∧ Below b8 wr wq) (fun m _ => n + 1 + (endRoom n 64 - 9) - lenOf m)
      case atStart => exact ⟨0, Nat.zero_le _, by simpa using hO6, hbt⟩
      case round =>
        clear hO6 hb6 hbt
        obtain ⟨z, hz, hO, hbq⟩ := hrel
        have hml : ([] ++ l ++ [128] ++ List.replicate z (0 : UInt8)).length = n + 1 + z := by simp; have := HN.out; omega
        obtain ⟨am, cm, hme⟩ := hO.shape
        rw [hml] at hme
        subst hme
        have hroom := room64 n z hz
        have hr2 := (endRoom_ge n 64 (by omega))
        have hB := Bs.one wr 0
        have hba := hbq.alloc (by have := hbq.size; have := HN8.out; omega) (.cells #[.int .u8 ((0 : UInt8).toNat : Int)] 5)
        have hsq : b8 ≤ wr.heap.size := by have := hbq.size; have := HN8.out; omega
        by_cases hzz : z = endRoom n 64 - 9
        · have hI : ((n : Int) + 1 + (z : Int)) % 64 = 56 := by
            have := hroom.2 hzz
            omega
          have HZ := Lib.hid hzz
          clear hzz hroom hB hba
          have hO1 := hO
          have hmn : IntKind.u64.wrap ((n : Int) * 8) = ((8 * n : Nat) : Int) := by rw [IntWalk.u64_in _ (by omega)]; omega
          go_wp2_with (first
            | (go_at_call 21; refine (refBig_any (8 * n) 8 _ (by omega) (by omega) (by omega)).mono ?_; rintro e w2 ⟨v2, rfl, hB2, hb2⟩
               have hO2 := hO1.below hb2
               have hbq2 := hbq.trans (hb2.mono hsq)
               have hsq2 := Nat.le_trans hsq hb2.size
               clear hb2)
            | (refine wpList_app rfl (.tmp 48) (.tmp 53) rfl b8 _ _ _ _ hO2 hB2 rfl rfl (by rw [hml, bigB_length]; omega) hsq2 ?_; intro v3 w3 hO3 hg3))
          have hbw : Below w.heap.size w w3 := (hbw8.trans (hbq2.mono (by have := HN8.out; have := hbw8.size; omega))).grown hg3 (by have := hbw8.size; have := HN8.out; omega) (fun r hr => by have := Owns.block hO2 r hr; have := hbw8.size; have := HN8.out; omega)
          have hb83 : Below b8 _ w3 := hbq2.grown hg3 hsq2 (Owns.block hO2)
          have hR3 := hR8.of_block (hb83.block rb (by have := hR8.lt; have := HN8.out; omega))
          have hH3 := hH8.of_block (hb83.block hb' (by have := hH8.lt; have := HN8.out; omega))
          have hM : [] ++ l ++ [128] ++ List.replicate z 0 ++ bigB (8 * n) 8 = k256.pad l := by
            have e1 := HZ.out
            have e2 := HN.out
            subst e2
            rw [e1]
            show _ = l ++ ([128] ++ List.replicate (endRoom l.length 64 - 9) 0 ++ bigB (8 * l.length) 8)
            simp
          rw [show ((8 : Int).toNat) = 8 from rfl, hM] at hO3
          obtain ⟨a3, c3, rfl⟩ := hO3.shape
          have hA3 : Away (.slice a3 (k256.pad l).length c3) hb' := hO3.away (by have := hH8.lt; have := HN8.out; omega)
          have hB3 := Lib.hid hO3.bs
          have hlt3 : hb' < w3.heap.size := hH3.lt
          have hTQ := pad_blocks k256 l (by decide) (.inl rfl)
          have hTmax : (k256.pad l).length < 2 ^ 31 := by
            show (l ++ endOf l.length 64).length < 2 ^ 31
            rw [List.length_append, endOf_length _ _ (by omega)]
            have := (endRoom_ge l.length 64 (by omega)).2
            have := HN.out
            omega
          generalize hMe : k256.pad l = M at *
          have HM := Lib.hid hMe
          clear hMe hO3 hg3 hO2 hB2 hbq2 hb83 hO1 hO hbq hR8 hH8 hbw8 hml hM HZ hI hz hmn
          obtain ⟨Q, hQ⟩ : ∃ Q, Q = M.length / k256.block := ⟨_, rfl⟩
          rw [← hQ] at hTQ
          replace hTQ : M.length = 64 * Q := hTQ
          generalize hTe : M.length = T at *
          have HT := Lib.hid hTe
          have HQ := Lib.hid hQ
          have HTQ := Lib.hid hTQ
          clear hTe hQ hTQ
          go_loopw [8] (fun p wq => ∃ (j q : Nat), j ≤ Q ∧ Hid (q = 64 * j) ∧ p = .int .i64 (q : Int) ∧ wq.rowIs hb' 75 8 (w32 (k256.state M j).at) ∧ w3.grownBy wq (some hb')) (fun p _ => T - (intOf p).toNat)
          case atStart => exact ⟨0, 0, Nat.zero_le _, rfl, rfl, hH3, grownBy_refl _ _⟩
          case round =>
            obtain ⟨j, q, hj, Hq, rfl, hH, hg⟩ := hrel
            have hqT : q ≤ T := by have := Hq.out; have := HTQ.out; omega
            by_cases hlt : j < Q
            · have hq64 : q + 64 ≤ T := by have := Hq.out; have := HTQ.out; omega
              have hqI : (q : Int) < (T : Int) := by omega
              have hW0 := rowIs_arr wr 64 (fun _ => .int .u32 0) 77
              have hgA := gb_alloc hg (.cells (arrOf 64 fun _ => .int .u32 0) 77)
              have hHA := hH.alloc (.cells (arrOf 64 fun _ => .int .u32 0) 77)
              have hwb : w3.heap.size ≤ wr.heap.size := hg.size
              have hwn : hb' ≠ wr.heap.size := by have := hH.lt; omega
              obtain ⟨W, hW⟩ : ∃ W, W = k256.sched (k256.word ((M.drop (64 * j)).take 64)) := ⟨_, rfl⟩
              have hW16 : ∀ t, t < 16 → W t = BitVec.ofNat 32 (numB ((M.drop (q + 4 * t)).take 4) 4) := fun t ht => by
                rw [hW, Kind.sched_low _ _ _ ht, numB_cut M q (4 * t) 4 64 (by omega), Hq.out]
                rfl
              have hWs : ∀ i, 16 ≤ i → W i = sig (W (i - 2)) 17 19 10 + W (i - 7) + sig (W (i - 15)) 7 18 3 + W (i - 16) := fun i hi => by
                rw [hW, Kind.sched_high _ _ _ hi]
                rfl
              have HWd := Lib.hid hW
              have HW16 := Lib.hid hW16
              have HWs := Lib.hid hWs
              clear hW hW16 hWs
              go_wp2_with (refine wpList_alloc_arr rfl 77 rfl (arrOf 64 fun _ => .int .u32 0) zeroR_32 ?_)
              clear hH hg
              generalize wr.heap.size = wb at *
              refine ref256_L4 w3 hb' wb T c3 q a3 M W (k256.state M j).at hTmax hq64 hB3 hA3 hwb hwn HW16 hW0 hHA hgA ?_
              intros
              rename_i w4 h4
              obtain ⟨hW4, hH4, hg4⟩ := h4
              clear hW0 hHA hgA
              go_wp2
              refine ref256_L5 w3 hb' wb W (k256.state M j).at hwb hwn HWs hW4 hH4 hg4 ?_
              intros
              rename_i w5 h5
              obtain ⟨hW5, hH5, hg5⟩ := h5
              clear hW4 hH4 hg4
              have hRq := gb_rowIs hR3 hg5 (Ne.symm hne41)
              have hV0 := rowIs_arr w5 8 (fun _ => .int .u32 0) 75
              have hHA := hH5.alloc (.cells (arrOf 8 fun _ => .int .u32 0) 75)
              have hWA := hW5.alloc (.cells (arrOf 8 fun _ => .int .u32 0) 75)
              have hRA := hRq.alloc (.cells (arrOf 8 fun _ => .int .u32 0) 75)
              have hgA := gb_alloc hg5 (.cells (arrOf 8 fun _ => .int .u32 0) 75)
              have hvb : w3.heap.size ≤ w5.heap.size := hg5.size
              have hvn : hb' ≠ w5.heap.size := by have := hH5.lt; omega
              have hvw : wb ≠ w5.heap.size := by have := hW5.lt; omega
              have hvr : rb ≠ w5.heap.size := by have := hRq.lt; omega
              obtain ⟨s0, hs0⟩ : ∃ s0, s0 = k256.state M j := ⟨_, rfl⟩
              rw [← hs0] at hH5 hHA
              have HS0 := Lib.hid hs0
              clear hs0
              go_wp2_with (first
                | (refine wpList_load_arr rfl 75 (.tmp 5) rfl 8 arr8_32 hH5 rfl (by omega) ?_; simp only [Nat.zero_add])
                | refine wpList_alloc_arr rfl 75 rfl (arrOf 8 fun _ => .int .u32 0) zero8_32 ?_
                | (refine wpList_store_arr rfl 75 (.tmp 14) (.tmp 133) rfl 8 arr8_32 hV0 rfl rfl (by omega) (fun _ _ => rfl) ?_; intro w6 hV6 hg6 hs6
                   replace hV6 := hV6.congr (g := w32 s0.at) (fun i hi => by unfold putN; rw [if_pos (by omega)]; rfl)
                   replace hHA := gb_rowIs hHA hg6 hvn
                   replace hWA := gb_rowIs hWA hg6 hvw
                   replace hRA := gb_rowIs hRA hg6 hvr
                   replace hgA := gb_row hgA hg6 hvb
                   clear hg6 hs6))
              clear hV0 hH5 hg5 hW5 hRq
              generalize w5.heap.size = vb at *
              refine ref256_L6 w3 rb hb' wb vb W s0 hvb hvn hvw hvr hV6 hWA hRA hHA hgA ?_
              intros
              rename_i w7 h7
              obtain ⟨hV7, hW7, hR7, hH7, hg7⟩ := h7
              clear hV6 hWA hRA hHA hgA
              go_wp2
              refine ref256_L7 w3 hb' vb s0 (k256.rnd W s0 64) hvn hV7 hH7 hg7 ?_
              intros
              rename_i w8 h8
              obtain ⟨hH8, hg8⟩ := h8
              clear hV7 hW7 hR7 hH7 hg7
              have hst : k256.state M (j + 1) = S8.add s0 (k256.rnd W s0 64) := by
                rw [HWd.out, HS0.out]
                rfl
              have HST := Lib.hid hst
              clear hst
              go_wp2
              go_roundw
              case rel => exact ⟨j + 1, q + 64, by omega, by have := Hq.out; show _ = _; omega, by go_num, by rw [HST.out]; exact hH8, hg8⟩
              case measure => simp [intOf]; omega
            · obtain rfl : j = Q := by omega
              have hqI : ¬ (q : Int) < (T : Int) := by have := Hq.out; have := HTQ.out; omega
              have hout : k256.out (k256.state M j) 8 = k256.sum l := by
                have e1 := HQ.out
                have e2 := HT.out
                rw [e1, ← e2, ← HM.out]
                rfl
              have HO := Lib.hid hout
              have hbf : Below w.heap.size w wr := gb_below hbw hg hbw.size (by omega)
              clear hout
              obtain ⟨s0, hs0⟩ : ∃ s0, s0 = k256.state M j := ⟨_, rfl⟩
              rw [← hs0] at hH HO
              clear hs0
              go_wp2
              go_loopw [21, 22] (fun out i wq => ∃ t : Nat, t ≤ 8 ∧ i = .int .i64 t ∧ Owns wq wr.heap.size out (k256.out s0 t) ∧ wq.rowIs hb' 75 8 (w32 s0.at) ∧ Below wr.heap.size wr wq) (fun _ i _ => 8 - (intOf i).toNat)
              case atStart => exact ⟨0, Nat.zero_le _, rfl, Owns.nil _ _, hH, Below.refl _ _⟩
              case round =>
                have hHl := hH.lt
                clear hH
                obtain ⟨t, ht, rfl, hown, hH, hbel⟩ := hrel
                by_cases hlt8 : t < 8
                · have hc : wr.cell? ⟨hb', t, none⟩ = some (.int .u32 ((s0.at t).toNat : Int)) := hH.cell hlt8
                  have hol : (k256.out s0 t).length = 4 * t := out_length k256 s0 4 rfl t
                  have hb8 : (t : Int) < 8 := by omega
                  have hcv : IntKind.u64.wrap ((s0.at t).toNat : Int) = ((s0.at t).toNat : Int) := IntWalk.u64_in _ ⟨by omega, by have := u32_lt (s0.at t); omega⟩
                  go_wp2_with (first
                    | (go_at_call 21; refine (refBig_any (s0.at t).toNat 4 _ (by have := u32_lt (s0.at t); omega) (by omega) (by omega)).mono ?_; rintro e w5 ⟨v5, rfl, hB5, hb5⟩
                       have hown5 := hown.below hb5
                       have hbel5 := hbel.trans (hb5.mono hbel.size)
                       have hH5 := hH.of_block (hb5.block _ hH.lt)
                       clear hb5)
                    | (refine wpList_app rfl (.tmp 235) (.tmp 240) rfl _ _ _ (k256.out s0 t) _ hown5 hB5 rfl rfl (by rw [hol, bigB_length]; omega) hbel5.size ?_; intro v6 w6 hown6 hgrow6))
                  have hbel6 := hbel5.grown hgrow6 hbel5.size (Owns.block hown5)
                  have hH6 : w6.rowIs hb' 75 8 (w32 s0.at) := hH5.of_block (hgrow6.block _ hH5.lt (fun e => by have := Owns.block hown5 hb' e.symm; omega))
                  clear hown5 hgrow6 hB5 hH5
                  go_wp2
                  go_roundw
                  case rel => exact ⟨t + 1, by omega, by go_num, hown6, hH6, hbel6⟩
                  case measure => simp [intOf]; omega
                · obtain rfl : t = 8 := by omega
                  go_wp2
                  go_ret
                  exact ⟨_, rfl, by rw [← HO.out]; exact hown.lower hbf.size, hbf.trans (hbel.mono hbf.size)⟩
        · have hI : ¬ ((n : Int) + 1 + (z : Int)) % 64 = 56 := by
            intro h
            exact hzz (hroom.1 (by omega))
          clear hroom
          go_wp2_with (refine wpList_app rfl (.tmp 45) (.tmp 46) rfl b8 _ _ _ [0] (hO.alloc _) hB rfl rfl (by rw [hml]; simp; omega) (by simp; omega) ?_; intro v3 w3 hO3 hg3)
          have hb3 : Below b8 _ w3 := hba.grown hg3 (by simp; omega) (Owns.block hO)
          go_roundw
          case rel =>
            refine ⟨z + 1, by omega, ?_, hb3⟩
            rw [List.replicate_succ', ← List.append_assoc]
            exact hO3
          case measure =>
            obtain ⟨a3, c3, rfl⟩ := hO3.shape
            simp [lenOf]
            have := HN.out
            omega
theorem ref256_any (v : Value) (l : List UInt8) (w : World) (hv : Bs w v l) (hlen : l.length < 2 ^ 30) :
    Calls Try.prog 34 #[v] w fun e w' => ∃ v', e = .returned v' ∧ Bs w' v' (k256.sum l) ∧ Below w.heap.size w w' :=
  (ref256O_any v l w hv hlen).mono fun e w' ⟨v', h1, h2, h3⟩ => ⟨v', h1, h2.bs, h3⟩
end Go.Proofs.Ytclbfbkbmiijnaa

/- The document's HMAC and HKDF. -/
set_option linter.unusedSimpArgs false
set_option linter.unusedVariables false
namespace Go.Proofs.Ytclbfbkbmiijnaa
open Go.RowKit Go.Deep

set_option maxHeartbeats 800000 in
theorem refCat_any (v : Value) (L : List (List UInt8)) (w : World) (hv : Bss w v L) (hlen : L.flatten.length ≤ 2147483647) :
    Calls Try.prog 20 #[v] w fun e w' => ∃ v', e = .returned v' ∧ Owns w' w.heap.size v' L.flatten ∧ Below w.heap.size w w' := by
  have HV := Lib.hid hv
  obtain ⟨a, cap, rfl, h1, h2, h3, h4⟩ := hv
  clear h3 h4
  unfold maxLen at h2
  go_enter Try.func20, Try.ntmps20
  go_wp2
  generalize hn : L.flatten.length = n at *
  have HN := Lib.hid hn
  clear hn
  go_loopw [3, 4] (fun v i wr => ∃ j : Nat, j ≤ L.length ∧ i = .int .i64 j ∧ Owns wr w.heap.size v (catTo L j) ∧ Below w.heap.size w wr) (fun _ i _ => L.length - (intOf i).toNat)
  case atStart => exact ⟨0, Nat.zero_le _, rfl, Owns.nil _ _, Below.refl _ _⟩
  case round =>
    obtain ⟨j, hj, rfl, hown, hbel⟩ := hrel
    by_cases hlt : j < L.length
    · have hsum : (catTo L j).length + L[j].length ≤ n := by
        have := catTo_le L (j + 1)
        rw [catTo_succ L j hlt, List.length_append] at this
        have := HN.out
        omega
      obtain ⟨b, off, cap', he, _, _, hbl, hc⟩ := HV.out.open_cons (by omega)
      cases he
      obtain ⟨u, hcj, hu⟩ := hc j hlt
      clear hc
      have hcr : wr.cell? ⟨b, off + j, none⟩ = some u := (hbel.cell (by exact hbl)).trans hcj
      have hur : Bs wr u L[j] := hu.below hbel (Nat.le_refl _)
      have HU := Lib.hid hur
      obtain ⟨au, cu, rfl, _, _, _, _⟩ := hu
      clear hur
      go_wp2_with (refine wpList_app rfl _ _ rfl w.heap.size _ _ (catTo L j) L[j] hown HU.out rfl rfl (by omega) (by have := hbel.size; omega) ?_; intro v2 w2 hown2 hgrow2)
      have hown3 : Owns w2 w.heap.size v2 (catTo L (j + 1)) := by rw [catTo_succ L j hlt]; exact hown2
      have hbel3 : Below w.heap.size w w2 := hbel.grown hgrow2 hbel.size (Owns.block hown)
      clear hown2 hgrow2 hown hbel hcr HU hsum
      go_wp2
      go_roundw
      case rel => exact ⟨j + 1, by omega, by go_num, hown3, hbel3⟩
      case measure => simp [intOf]; omega
    · obtain rfl : j = L.length := by omega
      go_wp2
      go_ret
      exact ⟨_, rfl, by rw [← catTo_all L L.length (Nat.le_refl _)]; exact hown, hbel⟩

set_option maxHeartbeats 800000 in
theorem refFill_any (v : Value) (l : List UInt8) (n : Nat) (w : World) (hv : Bs w v l) (hn : n ≤ 2147483647) (hn0 : 0 < n) :
    Calls Try.prog 35 #[v, .int .i64 (n : Int)] w fun e w' => ∃ v', e = .returned v' ∧ Bs w' v' (fillB l n) ∧ Below w.heap.size w w' := by
  obtain ⟨a, m, cap, rfl, hm, hc1, hc2, hB0⟩ := hv.shape
  have hmk : ∀ w : World, (Instr.makeSlice 22 (.int .i64 n) (.int .i64 n)).run Try.prog w = .ok (.slice (some ⟨w.heap.size, 0, none⟩) n n) (w.alloc (.cells (madeCells #[.int .u8 0] n) 5)) :=
    fun w => run_make_row' (P := Try.prog) 22 5 (.int .u8 0) 1 Try.underlying22 Try.info5 rfl .i64 .i64 n (by omega) (by omega) w
  have hmade := World.rowIs_made w (.int .u8 0) n 5
  have hb1 : Below w.heap.size w (w.alloc (.cells (madeCells #[.int .u8 0] n) 5)) := (Below.refl _ _).alloc (Nat.le_refl _) _
  have HB := Lib.hid (hB0.below hb1 (Nat.le_refl _))
  have HM := Lib.hid hm
  clear hv hB0 hm
  go_enter Try.func35, Try.ntmps35
  go_wp2_with (refine wpList_copy_bytes rfl (.tmp 8) (.tmp 9) rfl hmade HB.out rfl rfl (by omega) _ rfl ?_; intro w3 hr3 hg3 hs3)
  go_ret
  have hb3 : Below w.heap.size w w3 := hb1.grown hg3 hb1.size (by intro k hk; cases hk; omega)
  refine ⟨_, rfl, ?_, hb3⟩
  have h := Bs.of_rowIs hr3 (fillB l n) (by rw [fillB_length]; omega) (by unfold maxLen; omega) (fun i hi => by
    rw [fillB_length] at hi
    have e : (fillB l n)[i] = l.getD i 0 := by
      rw [← fillB_get l n i hi, getD_of_lt _ i (by rw [fillB_length]; exact hi)]
    rw [e]
    unfold putN bytesAt
    by_cases h1 : i < Nat.min l.length n
    · rw [if_pos ⟨by omega, by omega⟩, Nat.sub_zero]
    · have h2 : l.length ≤ i := by
        have e2 : Nat.min l.length n = min l.length n := rfl
        rw [e2] at h1
        omega
      rw [if_neg (by omega), List.getD_eq_getElem?_getD, List.getElem?_eq_none h2]
      rfl)
  rwa [fillB_length] at h

/-- The two rows of the document's loop: so many of them are laid. -/
def mAt (p : List UInt8) (m : UInt8) (j : Nat) : Nat → Value := fun i => if i < j then .int .u8 ((p.getD i 0 ^^^ m).toNat : Int) else .int .u8 0
theorem mAt_step {w : World} {g : Nat} {p : List UInt8} {m : UInt8} {j : Nat} {v : Int} (h : w.rowIs g 5 64 (mAt p m j)) (hv : v = ((p.getD j 0 ^^^ m).toNat : Int)) : (w.setCell ⟨g, j, none⟩ (.int .u8 v)).rowIs g 5 64 (mAt p m (j + 1)) :=
  (h.set j _).congr fun i hi => by
    show (if i = j then _ else _) = _
    unfold mAt
    by_cases e : i = j
    · subst e
      rw [if_pos rfl, if_pos (by omega), hv]
    · rw [if_neg e]
      by_cases h2 : i < j
      · rw [if_pos h2, if_pos (by omega)]
      · rw [if_neg h2, if_neg (by omega)]
theorem mAt_all {w : World} {g : Nat} {p : List UInt8} {m : UInt8} (hp : p.length = 64) (h : w.rowIs g 5 64 (mAt p m 64)) : Bs w (.slice (some ⟨g, 0, none⟩) 64 64) (xorM m p) := by
  have h2 := Bs.of_rowIs h (xorM m p) (by rw [xorM_length]; omega) (by unfold maxLen; omega) (fun i hi => by
    rw [xorM_length] at hi
    unfold mAt
    rw [if_pos (by omega)]
    simp [xorM, hi])
  rwa [xorM_length, hp] at h2

set_option maxHeartbeats 2000000 in
/-- From behind the key's sum. -/
theorem refMac_any (vk v : Value) (key l : List UInt8) (w : World) (hk : Bs w vk key) (hkl : key.length < 2 ^ 29) (hv : Bs w v l) (hl : l.length < 2 ^ 29) :
    Calls Try.prog 19 #[vk, v] w fun e w' => ∃ v', e = .returned v' ∧ Owns w' w.heap.size v' (hmac key l) ∧ Below w.heap.size w w' := by
  obtain ⟨a, n, cap, rfl, hn, hc1, hc2, hB0⟩ := hk.shape
  have HV := Lib.hid hv
  have HL := Lib.hid hl
  have HKL := Lib.hid hkl
  have HB0 := Lib.hid hB0
  have hmk : ∀ w : World, (Instr.makeSlice 22 (.int .i64 64) (.int .i64 64)).run Try.prog w = .ok (.slice (some ⟨w.heap.size, 0, none⟩) 64 64) (w.alloc (.cells (madeCells #[.int .u8 0] 64) 5)) :=
    fun w => run_make_row' (P := Try.prog) 22 5 (.int .u8 0) 1 Try.underlying22 Try.info5 rfl .i64 .i64 64 (by omega) (by omega) w
  have hmade := fun w : World => World.rowIs_made w (.int .u8 0) 64 5
  generalize hcells : (Obj.cells (madeCells #[.int .u8 0] 64) 5) = cells at *
  have hpl := padK_length key
  have HP := Lib.hid hpl
  clear hk hv hl hkl hB0 hpl
  go_enter Try.func19, Try.ntmps19
  by_cases hlong : 64 < n
  focus
    have hsh : shortK key = k256.sum key := by unfold shortK; rw [if_pos (by omega)]
    have hlI : (64 : Int) < (n : Int) := by omega
    clear hn hlong
    go_wp2_with (first
      | (go_at_call 34; refine (ref256_any _ _ _ HB0.out (by have := HKL.out; omega)).mono ?_; rintro e w1 ⟨v1, rfl, hB1, hb1⟩
         rw [← hsh] at hB1)
      | (go_at_call 35; refine (refFill_any _ _ 64 _ hB1 (by omega) (by omega)).mono ?_; rintro e w2 ⟨v2, rfl, hB2, hb2⟩
         have hb02 : Below w.heap.size w w2 := hb1.trans (hb2.mono hb1.size)
         obtain ⟨a2, n2, c2, rfl, hn2, hc21, hc22, hB2⟩ := hB2.shape
         obtain rfl : n2 = 64 := by rw [← hn2]; exact fillB_length _ _
         clear hn2 hb2))
  rotate_left
  focus
    have hsh : shortK key = key := by unfold shortK; rw [if_neg (by omega)]
    have hlI : (n : Int) ≤ (64 : Int) := by omega
    rw [← hsh] at HB0
    clear hn hlong
    go_wp2_with (first
      | (go_at_call 35; refine (refFill_any _ _ 64 _ HB0.out (by omega) (by omega)).mono ?_; rintro e w2 ⟨v2, rfl, hB2, hb2⟩
         have hb02 : Below w.heap.size w w2 := hb2
         obtain ⟨a2, n2, c2, rfl, hn2, hc21, hc22, hB2⟩ := hB2.shape
         obtain rfl : n2 = 64 := by rw [← hn2]; exact fillB_length _ _
         clear hn2 hb2))
  all_goals
    obtain ⟨p, hp⟩ : ∃ p, p = padK key := ⟨_, rfl⟩
    have hpl := HP.out
    rw [← hp] at hpl
    replace hB2 : Bs w2 (.slice a2 64 c2) p := by rw [hp]; exact hB2
    have HPE := Lib.hid hp
    have hrI : ((w2.alloc cells).alloc cells).rowIs w2.heap.size 5 64 (mAt p 0x36 0) := ((hmade w2).alloc _).congr fun i _ => rfl
    have hrO : ((w2.alloc cells).alloc cells).rowIs (w2.heap.size + 1) 5 64 (mAt p 0x5c 0) := by
      have h := (hmade (w2.alloc cells)).congr (g := mAt p 0x5c 0) fun i _ => rfl
      rw [World.size_alloc] at h
      exact h
    have hb3 : Below w2.heap.size w2 ((w2.alloc cells).alloc cells) := ((Below.refl _ _).alloc (Nat.le_refl _) _).alloc (by simp) _
    generalize hgI : w2.heap.size = gI at *
    generalize hgO : gI + 1 = gO at *
    have hne : gO ≠ gI := by omega
    have hne' : gI ≠ gO := by omega
    generalize ((w2.alloc cells).alloc cells) = w3 at *
    have HGI := Lib.hid hgI
    have HGO := Lib.hid hgO
    have HHV := Lib.hid (HV.out.below (hb02.trans (hb3.mono (by rw [← hgI]; exact hb02.size))) (Nat.le_refl _))
    clear hgI hgO hp hmk hmade hcells
    go_loopw [8] (fun i wr => ∃ j : Nat, j ≤ 64 ∧ i = .int .i64 j ∧ wr.rowIs gI 5 64 (mAt p 0x36 j) ∧ wr.rowIs gO 5 64 (mAt p 0x5c j) ∧ Below gI w2 wr) (fun i _ => 64 - (intOf i).toNat)
    case atStart => exact ⟨0, Nat.zero_le _, rfl, hrI, hrO, hb3⟩
    case round =>
      clear hrI hrO hb3
      obtain ⟨j, hj, rfl, hrI, hrO, hbel⟩ := hrel
      by_cases hlt : j < 64
      · obtain ⟨b2, o2, _, he, _, _, l2, hc⟩ := hB2.open_n hpl (by omega)
        cases he
        have hjp : j < p.length := by omega
        have hbI : b2 ≠ gI := by have := HGI.out; omega
        have hbO : b2 ≠ gO := by have := HGI.out; have := HGO.out; omega
        have hcl : wr.cell? ⟨b2, o2 + j, none⟩ = some (.int .u8 ((p[j]).toNat : Int)) := (hbel.cell (by have := HGI.out; exact (by omega : b2 < gI))).trans (hc j hjp)
        have hxI := bits_xorB p[j] 0x36
        have hxO := bits_xorB p[j] 0x5c
        rw [show ((0x36 : UInt8).toNat : Int) = 54 from rfl] at hxI
        rw [show ((0x5c : UInt8).toNat : Int) = 92 from rfl] at hxO
        have hpj : p.getD j 0 = p[j] := getD_of_lt p j hjp
        have hcI := hrI.cell hlt
        have hfI := hrI.frozen j
        have hcO := hrO.cell hlt
        have hfO := hrO.frozen j
        have hj64 : (j : Int) < 64 := by omega
        clear hc
        generalize p[j] = q at *
        have HPJ := Lib.hid hpj
        clear hpj
        go_wp2
        go_roundw
        case rel =>
          refine ⟨j + 1, by omega, by go_num, (mAt_step hrI (by rw [HPJ.out, UInt8.toNat_xor]; rfl)).setOther hne' _, mAt_step (hrO.setOther hne _) (by rw [HPJ.out, UInt8.toNat_xor]; rfl), (hbel.setCell (Nat.le_refl _) _).setCell (by show gI ≤ gO; have := HGO.out; omega) _⟩
        case measure => simp [intOf]; omega
      · obtain rfl : j = 64 := by omega
        have hI := mAt_all hpl hrI
        have hO := mAt_all hpl hrO
        have hbw : Below w.heap.size w wr := hb02.trans (hbel.mono (by have := HGI.out; have := hb02.size; omega))
        have hV := HV.out.below hbw (Nat.le_refl _)
        obtain ⟨av, nv, cv, hve, hnv, hcv1, hcv2, hV2⟩ := hV.shape
        subst hve
        have hRI := Lib.hid (Bss.two hI hV2 rfl)
        have hb4 : Below wr.heap.size wr (wr.alloc (.cells #[.slice (some ⟨gI, 0, none⟩) 64 64, .slice av nv cv] 22)) := (Below.refl _ _).alloc (Nat.le_refl _) _
        have hO4 := hO
        have hxl : ∀ m, (xorM m p).length = 64 := fun m => by rw [xorM_length, hpl]
        have HXL := Lib.hid hxl
        have hfI : ([xorM 0x36 p, l] : List (List UInt8)).flatten = xorM 0x36 p ++ l := by simp only [List.flatten_cons, List.flatten_nil, List.append_nil]
        have HFI := Lib.hid hfI
        have hfO : ∀ s, ([xorM 0x5c p, s] : List (List UInt8)).flatten = xorM 0x5c p ++ s := fun s => by simp only [List.flatten_cons, List.flatten_nil, List.append_nil]
        have HFO := Lib.hid hfO
        clear hrI hrO hI hO hV hV2 hnv hxl hfI hfO hbel
        go_wp2_with (first
          | (go_at_call 20
             first
               | (refine (refCat_any _ _ _ hRI.out (by rw [HFI.out, List.length_append, HXL.out]; have := HL.out; omega)).mono ?_; rintro e w5 ⟨v5, rfl, hO5, hb5⟩
                  have hB5 := hO5.bs
                  rw [HFI.out] at hB5
                  replace hb5 := hb4.trans (hb5.mono hb4.size)
                  clear hO5 hRI)
               | (refine (refCat_any _ _ _ hRO.out (by rw [HFO.out, List.length_append, HXL.out, sum256_length]; omega)).mono ?_; rintro e w7 ⟨v7, rfl, hO7, hb7⟩
                  have hB7 := hO7.bs
                  rw [HFO.out] at hB7
                  replace hb7 := hb6R.trans (hb7.mono hb6R.size)
                  clear hO7 hRO))
          | (go_at_call 34
             first
               | (refine (ref256_any _ _ _ hB5 (by rw [List.length_append, HXL.out]; have := HL.out; omega)).mono ?_; rintro e w6 ⟨v6, rfl, hB6, hb6⟩
                  obtain ⟨a6, n6, c6, rfl, hn6, hc61, hc62, hB6⟩ := hB6.shape
                  have hb06 : Below wr.heap.size wr w6 := hb5.trans (hb6.mono hb5.size)
                  have hRO := Lib.hid (Bss.two (hO4.below hb06 (Nat.le_refl _)) hB6 rfl)
                  have hb6R := hb06.alloc hb06.size (.cells #[.slice (some ⟨gO, 0, none⟩) 64 64, .slice a6 n6 c6] 22)
                  clear hB5)
               | (refine (ref256O_any _ _ _ hB7 (by rw [List.length_append, HXL.out, sum256_length]; omega)).mono ?_; rintro e w8 ⟨v8, rfl, hO8, hb8⟩
                  have hB8 := hO8.lower (Nat.le_trans hbw.size hb7.size)
                  have hb08 : Below wr.heap.size wr w8 := hb7.trans (hb8.mono hb7.size))))
        go_ret
        exact ⟨_, rfl, by unfold hmac; rw [← HPE.out]; exact hB8, hbw.trans (hb08.mono hbw.size)⟩
set_option maxHeartbeats 2000000 in
theorem refExpand_any (vp vi : Value) (prk info : List UInt8) (n : Int) (w : World) (hp : Bs w vp prk) (hpl : prk.length < 2 ^ 28) (hi : Bs w vi info) (hil : info.length < 2 ^ 28) (hn : (Lit.int .i64 n).wf = true) :
    Calls Try.prog 30 #[vp, vi, .int .i64 n] w fun e w' => ∃ v', e = .returned v' ∧ Bs w' v' (expandL prk info n) ∧ Below w.heap.size w w' := by
  have HP := Lib.hid hp
  have HPL := Lib.hid hpl
  by_cases h1 : n < 1
  · rw [expandL_out _ _ _ (.inl h1)]
    clear hn hi
    go_enter Try.func30, Try.ntmps30
    go_wp2
    go_ret
    exact ⟨_, rfl, Bs.nil _, Below.refl _ _⟩
  · by_cases h2 : 8160 < n
    · rw [expandL_out _ _ _ (.inr h2)]
      clear hn hi
      go_enter Try.func30, Try.ntmps30
      go_wp2
      go_ret
      exact ⟨_, rfl, Bs.nil _, Below.refl _ _⟩
    · obtain ⟨m, rfl⟩ : ∃ m : Nat, n = (m : Int) := ⟨n.toNat, by omega⟩
      rw [expandL_in _ _ _ (by omega)]
      have hm1 : 1 ≤ m := by omega
      have hm2 : m ≤ 8160 := by omega
      simp only [Int.toNat_natCast]
      obtain ⟨ai, ni, ci, rfl, hni, hci1, hci2, hI0⟩ := hi.shape
      have HI := Lib.hid hI0
      have HIL := Lib.hid hil
      have HLEN := Lib.hid (hkTo_length prk info)
      clear hn hi hp hpl hil hI0 hni
      go_enter Try.func30, Try.ntmps30
      go_wp2
      go_loopw [7, 8, 9] (fun out last c wr => ∃ j : Nat, c = .int .i64 ((j + 1 : Nat) : Int) ∧ (j = 0 ∨ 32 * (j - 1) < m) ∧ Owns wr w.heap.size out (hkTo prk info j) ∧ Bs wr last (hkN prk info j) ∧ Below w.heap.size w wr) (fun _ _ c _ => m + 64 - 32 * (intOf c).toNat)
      case atStart => exact ⟨0, rfl, .inl rfl, Owns.nil _ _, Bs.nil _, Below.refl _ _⟩
      case round =>
        obtain ⟨j, rfl, hjn, hown, hlast, hbel⟩ := hrel
        obtain ⟨ao, co, hoe⟩ := hown.shape
        have hol := HLEN.out j
        rw [hol] at hoe
        subst hoe
        by_cases hlt : 32 * j < m
        · have hcb : ((UInt8.ofNat (j + 1)).toNat : Int) = (j : Int) + 1 := by
            simp only [UInt8.toNat_ofNat']
            omega
          obtain ⟨al, nl, cl, rfl, hnl, hcl1, hcl2, hL0⟩ := hlast.shape
          have hone := Bs.one wr (UInt8.ofNat (j + 1))
          rw [hcb] at hone
          have hN1 := hkN_length prk info j
          have hNle := hkN_le prk info j
          have hb1 : Below wr.heap.size wr (wr.alloc (.cells #[.int .u8 ((j : Int) + 1)] 5)) := (Below.refl _ _).alloc (Nat.le_refl _) _
          have hI1 := (HI.out.below hbel (Nat.le_refl _)).below hb1 (Nat.le_refl _)
          have hL1 := hL0.below hb1 (Nat.le_refl _)
          have hR := Bss.three hL1 hI1 hone (n := wr.heap.size + 1) (by simp)
          have hb2 : Below wr.heap.size wr ((wr.alloc (.cells #[.int .u8 ((j : Int) + 1)] 5)).alloc (.cells #[.slice al nl cl, .slice ai ni ci, .slice (some ⟨wr.heap.size, 0, none⟩) 1 1] 22)) := hb1.alloc hb1.size _
          have hfl : ([hkN prk info j, info, [UInt8.ofNat (j + 1)]] : List (List UInt8)).flatten = hkN prk info j ++ info ++ [UInt8.ofNat (j + 1)] := by simp
          have hfll : (hkN prk info j ++ info ++ [UInt8.ofNat (j + 1)]).length < 2 ^ 29 := by simp only [List.length_append, List.length_singleton]; have := HIL.out; omega
          have HFL := Lib.hid hfl
          have HR := Lib.hid hR
          have HFLL := Lib.hid hfll
          have HO := Lib.hid hown
          have HPB := Lib.hid (HP.out.below hbel (Nat.le_refl _))
          clear hone hb1 hI1 hL1 hR hL0 hfl hfll hlast hown hnl hNle
          go_wp2_with (first
            | (go_at_call 20; refine (refCat_any _ _ _ HR.out (by rw [HFL.out]; have := HFLL.out; omega)).mono ?_; rintro e w3 ⟨v3, rfl, hO3, hb3⟩
               rw [HFL.out] at hO3
               replace hb3 := hb2.trans (hb3.mono hb2.size)
               have hP3 := HPB.out.below hb3 (Nat.le_refl _))
            | (go_at_call 19; refine (refMac_any _ _ prk _ _ hP3 (by have := HPL.out; omega) hO3.bs HFLL.out).mono ?_; rintro e w4 ⟨v4, rfl, hO4, hb4⟩
               have hb04 : Below wr.heap.size wr w4 := hb3.trans (hb4.mono hb3.size)
               have HA4 : Hid (∀ b, (Value.slice ao (32 * j) co).ownBlock = some b → Away v4 b) := Lib.hid fun b hb => hO4.away (by have := (World.ownsRow.lt HO.out b hb).2; have := hb3.size; omega)
               have HO5 := Lib.hid (HO.out.below hb04)
               have hB4 : Bs w4 v4 (hkN prk info (j + 1)) := hO4.bs
               have hbw4 : Below w.heap.size w w4 := hbel.trans (hb04.mono hbel.size)
               clear hO3 hP3 hb3 hb4 hO4 hb2)
            | (refine wpList_app rfl (.tmp 31) (.tmp 32) rfl w.heap.size _ _ _ _ HO5.out hB4 rfl rfl (by rw [hol, hN1]; omega) hbw4.size ?_; intro v5 w5 hO6 hg5))
          have hbel5 : Below w.heap.size w w5 := hbw4.grown hg5 hbw4.size (Owns.block HO5.out)
          have hB5 : Bs w5 v4 (hkN prk info (j + 1)) := hB4.grownOwn hg5 HO5.out (fun b _ hb => HA4.out b hb)
          clear HO5 hg5 hbw4 hB4
          go_wp2
          go_roundw
          case rel => exact ⟨j + 1, by go_num, .inr (by omega), hO6, hB5, hbel5⟩
          case measure => simp [intOf]; omega
        · have hj1 : 1 ≤ j := by omega
          have HB := Lib.hid hown.bs
          have hall : (hkTo prk info j).take m = hkdfL prk info m := by
            unfold hkdfL
            rw [show (m + 31) / 32 = j by omega]
          have HALL := Lib.hid hall
          clear hlast hall hown
          go_wp2_with (refine wpList_bsTo rfl (.tmp 34) (.tmp 35) rfl HB.out m rfl rfl rfl (by omega) (by omega) ?_; intro hB4)
          go_ret
          exact ⟨_, rfl, by rw [← HALL.out]; exact hB4, hbel⟩

set_option maxHeartbeats 800000 in
theorem refDerive_any (vs vk vi : Value) (salt ikm info : List UInt8) (n : Int) (w : World) (hs : Bs w vs salt) (hsl : salt.length < 2 ^ 28) (hk : Bs w vk ikm) (hkl : ikm.length < 2 ^ 28) (hi : Bs w vi info) (hil : info.length < 2 ^ 28) (hn : (Lit.int .i64 n).wf = true) :
    Calls Try.prog 16 #[vs, vk, vi, .int .i64 n] w fun e w' => ∃ v', e = .returned v' ∧ Bs w' v' (deriveL salt ikm info n) ∧ Below w.heap.size w w' := by
  have HS := Lib.hid hs
  have HK := Lib.hid hk
  have HI := Lib.hid hi
  have HSL := Lib.hid hsl
  have HKL := Lib.hid hkl
  have HIL := Lib.hid hil
  clear hs hsl hk hkl hi hil
  go_enter Try.func16, Try.ntmps16
  go_wp2_with (first
    | (go_at_call 19; refine (refMac_any _ _ salt ikm _ HS.out (by have := HSL.out; omega) HK.out (by have := HKL.out; omega)).mono ?_; rintro e w1 ⟨v1, rfl, hO1, hb1⟩
       have hB1 := hO1.bs
       have HI1 := Lib.hid (HI.out.below hb1 (Nat.le_refl _)))
    | (go_at_call 30; refine (refExpand_any _ _ _ info n _ hB1 (by rw [hmac_length]; decide) HI1.out HIL.out hn).mono ?_; rintro e w2 ⟨v2, rfl, hB2, hb2⟩
       have hb02 := hb1.trans (hb2.mono hb1.size)))
  go_ret
  exact ⟨_, rfl, hB2, hb02⟩
end Go.Proofs.Ytclbfbkbmiijnaa

/- AES of the document: Stream. -/
namespace Go.Proofs.Ytclbfbkbmiijnaa
open Go.RowKit Go.Deep
set_option linter.unusedSimpArgs false
set_option linter.unusedVariables false

/-- Till the last writer comes up, only what is new is laid. -/
def BelU (W : World) : Nat → World → Prop := fun _ w' => Below W.heap.size W w'
section
variable {P : Program} {ops : Array Oper} {Q : Exit → Act → World → Prop} {r : List (Nat × Option (List Nat))} {a : Act} {w W : World} {o : Oper} {i : Nat}
theorem lb_start {id : Nat} (r : List (Nat × Option (List Nat))) (hm : P.follows .mixedOrders = true) (hs : Region.noSelect ops = true) (hl : r.length ≤ ops.size)
    (hk : linsOk ops r (Array.replicate ops.size false) = true) (hQ : ∀ d v c a w, Q (.panic c) (Act.put a d v) w → Q (.panic c) a w)
    (h : LinS P ops Q r (BelU w.drew) a w.drew) : (Code.region id ops true).wp P Q a w :=
  wp_region_lins r (BelU w.drew) hm hs hl hk hQ (fun _ _ => Below.refl _ _) h
theorem lb_rd {c : Nat} {C : List Nat} {op : Op} {t : TypeId} (d : Nat) (v : Value) (ho : ops[i]? = some o) (hd : o.dst = some d) (hop : o.op = op) (ht : o.type = t) (hw : Region.wanted o (yielded ops a.tmps) = true)
    (hy : ∀ w', Below W.heap.size W w' → (execOp a.eval (mkOp op t)).run P w' = .ok (.value v) w') (h : LinS P ops Q r (BelU W) (a.put (some d) v) w) : LinS P ops Q ((i, some (c :: C)) :: r) (BelU W) a w :=
  lins_read d op t v ho hd hop ht hw (fun w' hw' => hy w' (hw' c List.mem_cons_self)) h
theorem lb_call {fn : Func} {f : Nat} {xs : Array Operand} {ts : Array TypeId} {args : Array Value} {X : Value → World → Prop} (d : Nat) (hW : Below W.heap.size W w) (hc : Calls P f args w fun e w' => ∃ v, e = .returned v ∧ X v w' ∧ Below w.heap.size w w')
    (ho : ops[i]? = some o) (hd : o.dst = some d) (hop : o.op = .call { callee := .value (.func f), args := xs, argTypes := ts })
    (hw : Region.wanted o (yielded ops a.tmps) = true) (hf : P.funcs[f]? = some fn) (hn : (fn.name == "runtime.NumGoroutine") = false) (hb : fn.body.isNone = false) (hargs : xs.map a.eval = args)
    (h : ∀ v w', X v w' → Below w.heap.size w w' → LinS P ops Q r (BelU W) (a.put (some d) v) w') : LinS P ops Q ((i, none) :: r) (BelU W) a w :=
  lins_fn (some d) f xs ts args hc ho hd hop hw hf hn hb hargs fun e w' hT => by
    obtain ⟨v, rfl, h1, h2⟩ := hT
    exact ⟨v, rfl, BelU W, fun c _ => ⟨hW.trans (h2.mono hW.size), fun _ h => h⟩, h v w' h1 h2⟩
end
section
variable {ops : Array Oper} {Q : Exit → Act → World → Prop} {r : List (Nat × Option (List Nat))} {a : Act} {w W : World} {o : Oper} {i : Nat}
theorem lb_rows2 {t : TypeId} (d : Nat) (x y : Operand) (hW : Below W.heap.size W w) (ho : ops[i]? = some o) (hd : o.dst = some d) (hop : o.op = .buildSlice 57 2 #[(0, x), (1, y)]) (ht : o.type = t)
    (hw : Region.wanted o (yielded ops a.tmps) = true) {v1 v2 : Value} {l1 l2 : List UInt8} (h1 : Bs w v1 l1) (h2 : Bs w v2 l2) (hx : a.eval x = v1) (hy : a.eval y = v2) (h : ∀ v w', Bss w' v [l1, l2] → Below w.heap.size w w' → LinS Try.prog ops Q r (BelU W) (a.put (some d) v) w') : LinS Try.prog ops Q ((i, none) :: r) (BelU W) a w :=
  have hb : Below w.heap.size w (w.alloc (.cells #[v1, v2] 22)) := (Below.refl _ _).alloc (Nat.le_refl _) _
  lins_made (some d) _ t _ _ ho hd hop ht hw (exec_rowsP2 a.eval x y t w h1 h2 hx hy) (BelU W) (fun _ _ => ⟨hW.trans (hb.mono hW.size), fun _ h => h⟩) (h _ _ (Bss.two h1 h2 rfl) hb)
theorem lb_app {R : Nat → World → Prop} {t : TypeId} (d : Nat) (s x : Operand) (hr : writers r = []) (ho : ops[i]? = some o) (hd : o.dst = some d) (hop : o.op = .call { callee := .builtin .append, args := #[s, x], argTypes := #[22, 22] }) (ht : o.type = t)
    (hw : Region.wanted o (yielded ops a.tmps) = true) (base : Nat) {v vb : Value} {l lb : List UInt8} (hown : Owns w base v l) (hb : Bs w vb lb) (hs : a.eval s = v) (hx : a.eval x = vb) (hlen : l.length + lb.length ≤ 2147483647) (hbase : base ≤ w.heap.size)
    (h : ∀ v' w', Owns w' base v' (l ++ lb) → w.grownBy w' v.ownBlock → (v'.ownBlock = v.ownBlock ∨ ∀ b, v'.ownBlock = some b → w.heap.size ≤ b) → LinS Try.prog ops Q r Any (a.put (some d) v') w') : LinS Try.prog ops Q ((i, none) :: r) R a w := by
  obtain ⟨v', w', hr', h1, h2, h3⟩ := exec_app a.eval s x t base v vb l lb hown hb hs hx hlen hbase
  exact lins_made (some d) _ t v' w' ho hd hop ht hw hr' Any (fun c hc => by rw [hr] at hc; cases hc) (h v' w' h1 h2 h3)
end
/-- The stream's first n blocks. -/
def outS (key nonce : List UInt8) : Nat → List UInt8
  | 0 => []
  | n + 1 => outS key nonce n ++ aesL key (nonce ++ bigB n 4)
theorem outS_len (key nonce : List UInt8) : ∀ n, (outS key nonce n).length = 16 * n
  | 0 => rfl
  | n + 1 => by rw [outS, List.length_append, outS_len key nonce n, aesL_len, Nat.mul_succ]
theorem bigB_len4 (n : Nat) : (bigB n 4).length = 4 := by simp [bigB]
theorem bigK_to (n : Nat) (w : World) (hn : n < 2 ^ 64) : Calls Try.prog 21 #[.int .u64 (n : Int), .int .i64 4] w fun e w' => ∃ v, e = .returned v ∧ Bs w' v (bigB n 4) ∧ Below w.heap.size w w' := refBig_any n 4 w hn (by decide) (by decide)
theorem catK_to (v : Value) (l m : List UInt8) (w : World) (hv : Bss w v [l, m]) (h : l.length + m.length ≤ 2147483647) : Calls Try.prog 20 #[v] w fun e w' => ∃ v', e = .returned v' ∧ Bs w' v' (l ++ m) ∧ Below w.heap.size w w' := by
  refine (refCat_any v [l, m] w hv (by simpa using h)).mono ?_
  rintro e w' ⟨v', rfl, ho, kk⟩
  exact ⟨v', rfl, by simpa using ho.bs, kk⟩
set_option maxHeartbeats 4000000 in
set_option maxRecDepth 20000 in
theorem refStream_any (v0 : Value) (l0 : List UInt8) (v1 : Value) (l1 : List UInt8) (n : Nat) (w : World) (h0 : Bs w v0 l0) (hl0 : l0.length = 32) (h1 : Bs w v1 l1) (hl1 : l1.length = 12) (hn : n ≤ 1048576) : Calls Try.prog 17 #[v0, v1, .int .i64 (n : Int)] w fun e w' => ∃ v, e = .returned (.tuple #[v, .int .i64 0]) ∧ Bs w' v ((outS l0 l1 ((n + 15) / 16)).take n) ∧ Below w.heap.size w w' := by
  obtain ⟨ad0, n0, c0, rfl, e0, y0, z0, hB0⟩ := h0.shape
  have d0 : n0 = 32 := by omega
  subst d0
  have f_s0 := hB0
  have HF_s0 := Lib.hid hB0
  have HL0 := Lib.hid hl0
  clear h0 hB0 e0 hl0
  obtain ⟨ad1, n1, c1, rfl, e1, y1, z1, hB1⟩ := h1.shape
  have d1 : n1 = 12 := by omega
  subst d1
  have f_s1 := hB1
  have HF_s1 := Lib.hid hB1
  have HL1 := Lib.hid hl1
  clear h1 hB1 e1 hl1
  have Bw0 := Below.refl w.heap.size w
  have HGS : Hid (∀ wq : World, Below w.heap.size w wq → w.heap.size ≤ wq.heap.size) := Lib.hid fun wq h => h.size
  have hnI : ¬ (n : Int) < 0 := by omega
  have hnJ : ¬ (1048576 : Int) < (n : Int) := by omega
  have HN := Lib.hid hn
  clear hn
  go_enter Try.func17, Try.ntmps17
  go_wp2_with (first
    | (have hgo := Bw0; clear hgo
       go_at_call 31
       refine (boxes_any _).mono ?_
       rintro e w19 ⟨rfl, kk⟩
       replace f_s0 := zfb f_s0 kk
       replace f_s1 := zfb f_s1 kk
       have Bw1 := zbt HGS Bw0 kk
       clear Bw0 kk)
    | (have hgo := Bw1; clear hgo
       refine wpList_alloc_row rfl 51 rfl 256 (cF .u8 fun _ => 0) zeroB256 ?_
       intro b_t8 w20 lk r_t8 kk
       have l_t8 := zrl HGS Bw1 lk
       have a_s0_t8 := Bs.away f_s0 lk
       have a_s1_t8 := Bs.away f_s1 lk
       replace f_s0 := zfb f_s0 kk
       replace f_s1 := zfb f_s1 kk
       have Bw2 := zbt HGS Bw1 kk
       clear Bw1 kk lk)
    | (have hgo := Bw2; clear hgo
       refine wpList_store_as rfl 51 (.tmp 8) (.tmp 28) rfl 256 (cF .u8 boxN) arrB256 r_t8 rfl rfl (by omega) (fun _ _ => rfl) (fun i hi => putN_whole hi) ?_
       intro w21 q gk
       replace r_t8 := q
       have Bw3 := zbg HGS Bw2 gk l_t8
       replace f_s0 := gb_bs f_s0 gk a_s0_t8
       replace f_s1 := gb_bs f_s1 gk a_s1_t8
       clear Bw2 gk q)
    | (have hgo := Bw3; clear hgo
       refine wpList_load_as rfl 51 (.tmp 8) rfl 256 (cF .u8 boxN) arrB256 r_t8 rfl (by omega) (fun i hi => by rw [Nat.zero_add]) ?_
       have Bw4 := Bw3
       clear Bw3)
    | (have hgo := Bw4; clear hgo
       go_at_call 32
       refine (refSchedule_any _ l0 _ f_s0 HL0.out).mono ?_
       rintro e w24 ⟨v_s31, rfl, o_s31, kk⟩
       replace r_t8 := zrb r_t8 kk
       replace f_s0 := zfb f_s0 kk
       replace f_s1 := zfb f_s1 kk
       have Bw5 := zbt HGS Bw4 kk
       clear Bw4 kk
       have f_s31 := o_s31.bs
       clear o_s31))
  obtain ⟨BS, hBS⟩ : ∃ n, n = w24.heap.size := ⟨_, rfl⟩
  have H51 : Hid (b_t8 < BS) := Lib.hid (by rw [hBS]; exact World.rowIs.lt r_t8)
  have HB0 : Hid (w.heap.size ≤ BS) := Lib.hid (by rw [hBS]; exact HGS.out _ Bw5)
  have hbs : BS ≤ w24.heap.size := by rw [hBS]; exact Nat.le_refl _
  have HF : Hid (∀ W', Below BS w24 W' → Bs W' v_s31 (schL l0)) := Lib.hid fun W' hb => f_s31.below hb (by rw [hBS]; exact Nat.le_refl _)
  have hb0 : Below BS w24 w24 := Below.refl _ _
  clear hBS hnI hnJ
  go_loopw [10, 11] (fun sv iv wr => ∃ (i : Nat) (v : Value), v = sv ∧ iv = .int .i64 (i : Int) ∧ 16 * i < n + 16 ∧ Owns wr BS v (outS l0 l1 i) ∧ wr.rowIs b_t8 51 256 (cF .u8 boxN) ∧ BS ≤ wr.heap.size ∧ Below BS w24 wr ∧ Below w.heap.size w wr) (fun _ iv _ => 65537 - (intOf iv).toNat)
  case atStart => exact ⟨0, _, rfl, rfl, by omega, Owns.nil _ _, r_t8, hbs, hb0, Bw5⟩
  case round =>
    clear r_t8 hbs hb0 Bw5 f_s31 f_s0 f_s1
    obtain ⟨i, v, rfl, rfl, hi, hown, r_t8, hbs, hb0, Bw0⟩ := hrel
    obtain ⟨ad5, n5, c5, rfl, e5, y5, z5, hB5⟩ := hown.bs.shape
    have hn5 : n5 = 16 * i := by rw [← e5]; exact outS_len _ _ _
    clear e5 y5 z5
    by_cases hlt : n5 < n
    · have hltI : (n5 : Int) < (n : Int) := by omega
      have hN := HN.out
      have hil : i < 65536 := by omega
      have HI64 : Hid (i < 2 ^ 64) := Lib.hid (Nat.lt_trans hil (by decide))
      have hw : IntKind.u64.wrap (i : Int) = (i : Int) := by rw [IntKind.wrap_u64]; omega
      obtain ⟨i1, hi1⟩ := nat_var (i + 1)
      have hwi : IntKind.i64.wrap ((i : Int) + 1) = (i1 : Int) := by rw [IntWalk.i64_in _ (by omega)]; omega
      have HI1 := Lib.hid hi1
      have HI2 : Hid (16 * (i + 1) < n + 16 ∧ i < 65536) := Lib.hid (by omega)
      have HLN : Hid ((outS l0 l1 i).length + (aesL l0 (l1 ++ bigB i 4)).length ≤ 2147483647) := Lib.hid (by rw [outS_len, aesL_len]; omega)
      have f_k := Bs.drew (HF.out _ hb0)
      have f_n := Bs.drew (HF_s1.out.below Bw0 (Nat.le_refl _))
      replace r_t8 := World.rowIs.drew r_t8
      have R8 := Lib.hid r_t8
      have HBS := Lib.hid hbs
      have HB := Lib.hid hb0
      replace hown := hown.drew
      replace hbs : BS ≤ wr.drew.heap.size := hbs
      have HW0 := Below.refl wr.drew.heap.size wr.drew
      clear hlt hn5 hi hi1 hil hN hB5 hb0
      go_wp2
      replace Bw0 := Bw0.drew
      refine lb_start [(0, some [10]), (1, some [9]), (2, some [9]), (3, some [7]), (4, some []), (5, some [6]), (6, none), (7, none), (8, none), (9, none), (10, none), (11, some [])] (by kernel_rfl) (by kernel_rfl) (by decide) (by kernel_rfl) (fun d _ _ _ _ h => by cases d <;> exact h) ?_
      refine lb_rd 38 (.slice ad5 n5 c5) rfl rfl rfl rfl rfl (fun wx hx => by unfold mkOp; go_simp; all_goals (with_reducible rfl)) ?_
      simp only [Act.put, zA, zB, zC]
      refine lb_rd 39 (v_s31) rfl rfl rfl rfl rfl (fun wx hx => by unfold mkOp; go_simp; all_goals (with_reducible rfl)) ?_
      simp only [Act.put, zA, zB, zC]
      refine lb_rd 40 (.agg (arrOf 256 (cF .u8 boxN))) rfl rfl rfl rfl rfl (fun wx hx => exec_load_as _ _ _ _ (cF .u8 boxN) rfl arrB256 (World.rowIs.of_block R8.out (hx.block _ (World.rowIs.lt R8.out))) (by omega) (fun i hi => by rw [Nat.zero_add])) ?_
      simp only [Act.put, zA, zB, zC]
      refine lb_rd 41 (.slice ad1 12 c1) rfl rfl rfl rfl rfl (fun wx hx => by unfold mkOp; go_simp; all_goals (with_reducible rfl)) ?_
      simp only [Act.put, zA, zB, zC]
      refine le_rdA 42 (.int .i64 (i : Int)) rfl rfl rfl rfl rfl (fun wx => by unfold mkOp; go_simp; all_goals (with_reducible rfl)) ?_
      simp only [Act.put, zA, zB, zC]
      refine lb_rd 43 (.int .u64 (i : Int)) rfl rfl rfl rfl rfl (fun wx hx => by unfold mkOp; go_simp; all_goals (with_reducible rfl)) ?_
      simp only [Act.put, zA, zB, zC]
      refine lb_call 44 HW0 (bigK_to i _ HI64.out) rfl rfl rfl rfl Try.func21 (by kernel_rfl) (by kernel_rfl) (by go_simp) ?_
      intro v_c w5 f_c kk
      replace hown := Owns.belowJ hown kk
      replace f_k := zfb f_k kk
      replace f_n := zfb f_n kk
      replace r_t8 := zrb r_t8 kk
      replace hbs := Nat.le_trans hbs kk.size
      have HW1 := HW0.trans (kk.mono HW0.size)
      have Bw1 := zbt HGS Bw0 kk
      clear Bw0 HW0 kk
      simp only [Act.put, zA, zB, zC]
      refine lb_rows2 45 (.tmp 41) (.tmp 44) HW1 rfl rfl rfl rfl rfl f_n f_c rfl rfl ?_
      intro v_r w6 F_r kk
      replace hown := Owns.belowJ hown kk
      replace f_k := zfb f_k kk
      replace f_n := zfb f_n kk
      replace r_t8 := zrb r_t8 kk
      replace hbs := Nat.le_trans hbs kk.size
      have HW2 := HW1.trans (kk.mono HW1.size)
      have Bw2 := zbt HGS Bw1 kk
      clear Bw1 HW1 kk
      simp only [Act.put, zA, zB, zC]
      refine lb_call 46 HW2 (catK_to _ _ _ _ F_r (by rw [HL1.out, bigB_len4]; decide)) rfl rfl rfl rfl Try.func20 (by kernel_rfl) (by kernel_rfl) (by go_simp) ?_
      intro v_m w7 f_m kk
      replace hown := Owns.belowJ hown kk
      replace f_k := zfb f_k kk
      replace f_n := zfb f_n kk
      replace r_t8 := zrb r_t8 kk
      replace hbs := Nat.le_trans hbs kk.size
      have HW3 := HW2.trans (kk.mono HW2.size)
      have Bw3 := zbt HGS Bw2 kk
      clear Bw2 HW2 kk
      simp only [Act.put, zA, zB, zC]
      refine lb_call 47 HW3 (blockW_to _ _ _ l0 _ _ rfl HL0.out f_k f_m (by rw [List.length_append, HL1.out, bigB_len4])) rfl rfl rfl rfl Try.func33 (by kernel_rfl) (by kernel_rfl) (by go_simp) ?_
      intro v_b w8 f_b kk
      replace hown := Owns.belowJ hown kk
      replace f_k := zfb f_k kk
      replace f_n := zfb f_n kk
      replace r_t8 := zrb r_t8 kk
      replace hbs := Nat.le_trans hbs kk.size
      have HW4 := HW3.trans (kk.mono HW3.size)
      have Bw4 := zbt HGS Bw3 kk
      clear Bw3 HW3 kk
      simp only [Act.put, zA, zB, zC]
      refine lb_app 48 (.tmp 38) (.tmp 47) rfl rfl rfl rfl rfl rfl BS hown f_b rfl rfl HLN.out hbs ?_
      intro v3 w9 hown3 g9 _
      simp only [Act.put, zA, zB, zC]
      refine le_rdA 10 (v3) rfl rfl rfl rfl rfl (fun wx => by unfold mkOp; go_simp; all_goals (with_reducible rfl)) ?_
      simp only [Act.put, zA, zB, zC]
      refine le_end ?_
      have hown4 : Owns w9 BS v3 (outS l0 l1 (i + 1)) := hown3
      replace r_t8 := World.rowIs.of_block r_t8 (g9.block _ (World.rowIs.lt r_t8) (fun e => absurd (Owns.block hown _ e.symm) (Nat.not_le_of_lt H51.out)))
      have hb9 := (HB.out.drew.trans (HW4.mono HBS.out)).grown g9 hbs (fun j hj => Owns.block hown j hj)
      have Bw9 := Bw4.grown g9 (HGS.out _ Bw4) (fun j hj => Nat.le_trans HB0.out (Owns.block hown j hj))
      replace hbs := Nat.le_trans hbs g9.size
      clear Bw4 HW4 g9 hown hown3 f_k f_n f_b hw hltI
      go_wp2
      go_roundw
      case rel => exact ⟨i + 1, v3, rfl, by rw [HI1.out], HI2.out.1, hown4, r_t8, hbs, hb9, Bw9⟩
      case measure => (have := HI2.out; have := HI1.out; simp [intOf]; try omega)
    · have hltI : ¬ (n5 : Int) < (n : Int) := by omega
      have hie : i = (n + 15) / 16 := by omega
      subst hie
      have hnl : n ≤ (outS l0 l1 ((n + 15) / 16)).length := by rw [outS_len]; omega
      obtain ⟨v_o, f_o, hro⟩ := takeB hB5 n hnl
      clear hlt hn5 hi hnl
      go_wp2_with (refine wpList_value rfl _ (by rw [exec_mkOp]; exact hro _ _ _ _ _ rfl rfl) ?_)
      go_ret2
      exact ⟨_, rfl, f_o, Bw0⟩
end Go.Proofs.Ytclbfbkbmiijnaa

/- AES: words of four bytes. -/
namespace Go.Proofs.Ytclbfbkbmiijnaa
open Go.RowKit Go.Deep
set_option linter.unusedSimpArgs false
set_option linter.unusedVariables false

/-- A word of four bytes. -/
def w4 (a b c d : Nat) : Nat := ((a * 256 + b) * 256 + c) * 256 + d
def wd (A : Nat → Nat) (c : Nat) : Nat := w4 (A (4 * c)) (A (4 * c + 1)) (A (4 * c + 2)) (A (4 * c + 3))
theorem w4_lt {a b c d : Nat} (ha : a < 256) (hb : b < 256) (hc : c < 256) (hd : d < 256) : w4 a b c d < 4294967296 := by unfold w4; omega
theorem wd_lt {A : Nat → Nat} (h : ∀ j, A j < 256) (c : Nat) : wd A c < 4294967296 := w4_lt (h _) (h _) (h _) (h _)
theorem xor_cat (x y p q : Nat) (hp : p < 256) (hq : q < 256) : (x * 256 + p) ^^^ (y * 256 + q) = (x ^^^ y) * 256 + (p ^^^ q) := by
  have hr : p ^^^ q < 256 := xor_lt8 hp hq
  apply Nat.eq_of_testBit_eq
  intro i
  rw [Nat.testBit_xor, Nat.mul_comm x, Nat.mul_comm y, Nat.mul_comm (x ^^^ y), Nat.testBit_two_pow_mul_add (i := 8) x hp, Nat.testBit_two_pow_mul_add (i := 8) y hq, Nat.testBit_two_pow_mul_add (i := 8) (x ^^^ y) hr, Nat.testBit_xor, Nat.testBit_xor]
  split <;> rfl
theorem or_cat (x y p q : Nat) (hp : p < 256) (hq : q < 256) : (x * 256 + p) ||| (y * 256 + q) = (x ||| y) * 256 + (p ||| q) := by
  have hr : p ||| q < 256 := Nat.or_lt_two_pow (n := 8) hp hq
  apply Nat.eq_of_testBit_eq
  intro i
  rw [Nat.testBit_or, Nat.mul_comm x, Nat.mul_comm y, Nat.mul_comm (x ||| y), Nat.testBit_two_pow_mul_add (i := 8) x hp, Nat.testBit_two_pow_mul_add (i := 8) y hq, Nat.testBit_two_pow_mul_add (i := 8) (x ||| y) hr, Nat.testBit_or, Nat.testBit_or]
  split <;> rfl
theorem and_cat (x y p q : Nat) (hp : p < 256) (hq : q < 256) : (x * 256 + p) &&& (y * 256 + q) = (x &&& y) * 256 + (p &&& q) := by
  have hr : p &&& q < 256 := Nat.and_lt_two_pow (n := 8) _ hq
  apply Nat.eq_of_testBit_eq
  intro i
  rw [Nat.testBit_and, Nat.mul_comm x, Nat.mul_comm y, Nat.mul_comm (x &&& y), Nat.testBit_two_pow_mul_add (i := 8) x hp, Nat.testBit_two_pow_mul_add (i := 8) y hq, Nat.testBit_two_pow_mul_add (i := 8) (x &&& y) hr, Nat.testBit_and, Nat.testBit_and]
  split <;> rfl
section
variable {a b c d e f g h : Nat} (ha : a < 256) (hb : b < 256) (hc : c < 256) (hd : d < 256) (he : e < 256) (hf : f < 256) (hg : g < 256) (hh : h < 256)
include hb hc hd hf hg hh
theorem w4_xor : w4 a b c d ^^^ w4 e f g h = w4 (a ^^^ e) (b ^^^ f) (c ^^^ g) (d ^^^ h) := by
  unfold w4
  rw [xor_cat _ _ _ _ hd hh, xor_cat _ _ _ _ hc hg, xor_cat _ _ _ _ hb hf]
theorem w4_or : w4 a b c d ||| w4 e f g h = w4 (a ||| e) (b ||| f) (c ||| g) (d ||| h) := by
  unfold w4
  rw [or_cat _ _ _ _ hd hh, or_cat _ _ _ _ hc hg, or_cat _ _ _ _ hb hf]
theorem w4_and : w4 a b c d &&& w4 e f g h = w4 (a &&& e) (b &&& f) (c &&& g) (d &&& h) := by
  unfold w4
  rw [and_cat _ _ _ _ hd hh, and_cat _ _ _ _ hc hg, and_cat _ _ _ _ hb hf]
end
theorem ofI32 (x : Nat) (h : x < 4294967296) : (BitVec.ofInt 32 (x : Int)).toNat = x := by simp; omega
theorem bits_xor32 (x y : Nat) (hx : x < 4294967296) (hy : y < 4294967296) : bits .xor .u32 (x : Int) (y : Int) = ((x ^^^ y : Nat) : Int) := by
  show IntKind.u32.wrap (((BitVec.ofInt 32 (x : Int)) ^^^ (BitVec.ofInt 32 (y : Int))).toNat : Int) = _
  have hlt := ((BitVec.ofInt 32 (x : Int)) ^^^ (BitVec.ofInt 32 (y : Int))).isLt
  rw [IntKind.wrap_u32, BitVec.toNat_xor, ofI32 x hx, ofI32 y hy]
  rw [BitVec.toNat_xor, ofI32 x hx, ofI32 y hy] at hlt
  omega
theorem bits_or32 (x y : Nat) (hx : x < 4294967296) (hy : y < 4294967296) : bits .or .u32 (x : Int) (y : Int) = ((x ||| y : Nat) : Int) := by
  show IntKind.u32.wrap (((BitVec.ofInt 32 (x : Int)) ||| (BitVec.ofInt 32 (y : Int))).toNat : Int) = _
  have hlt := ((BitVec.ofInt 32 (x : Int)) ||| (BitVec.ofInt 32 (y : Int))).isLt
  rw [IntKind.wrap_u32, BitVec.toNat_or, ofI32 x hx, ofI32 y hy]
  rw [BitVec.toNat_or, ofI32 x hx, ofI32 y hy] at hlt
  omega
theorem bits_and32 (x y : Nat) (hx : x < 4294967296) (hy : y < 4294967296) : bits .and .u32 (x : Int) (y : Int) = ((x &&& y : Nat) : Int) := by
  show IntKind.u32.wrap (((BitVec.ofInt 32 (x : Int)) &&& (BitVec.ofInt 32 (y : Int))).toNat : Int) = _
  have hlt := ((BitVec.ofInt 32 (x : Int)) &&& (BitVec.ofInt 32 (y : Int))).isLt
  rw [IntKind.wrap_u32, BitVec.toNat_and, ofI32 x hx, ofI32 y hy]
  rw [BitVec.toNat_and, ofI32 x hx, ofI32 y hy] at hlt
  omega
theorem and255 {x : Nat} (h : x < 256) : x &&& 255 = x := Nat.and_two_pow_sub_one_of_lt_two_pow (n := 8) h
/-- Two of a word's bytes laid together. -/
theorem w4_or0 {a b c d : Nat} (ha : a < 256) (hb : b < 256) (hc : c < 256) (hd : d < 256) : w4 a 0 0 0 ||| w4 0 b 0 0 = w4 a b 0 0 ∧ w4 a b 0 0 ||| w4 0 0 c 0 = w4 a b c 0 ∧ w4 a b c 0 ||| w4 0 0 0 d = w4 a b c d := by
  refine ⟨?_, ?_, ?_⟩
  · rw [w4_or (by decide) (by decide) (by decide) hb (by decide) (by decide)]; simp
  · rw [w4_or hb (by decide) (by decide) (by decide) hc (by decide)]; simp
  · rw [w4_or hb hc (by decide) (by decide) (by decide) hd]; simp
theorem w4_masks {a b c d : Nat} (ha : a < 256) (hb : b < 256) (hc : c < 256) (hd : d < 256) : w4 a b c d &&& 4278190080 = w4 a 0 0 0 ∧ w4 a b c d &&& 16711680 = w4 0 b 0 0 ∧ w4 a b c d &&& 65280 = w4 0 0 c 0 ∧ w4 a b c d &&& 255 = w4 0 0 0 d := by
  refine ⟨?_, ?_, ?_, ?_⟩
  · rw [show 4278190080 = w4 255 0 0 0 from rfl, w4_and hb hc hd (by decide) (by decide) (by decide), and255 ha]; simp
  · rw [show 16711680 = w4 0 255 0 0 from rfl, w4_and hb hc hd (by decide) (by decide) (by decide), and255 hb]; simp
  · rw [show 65280 = w4 0 0 255 0 from rfl, w4_and hb hc hd (by decide) (by decide) (by decide), and255 hc]; simp
  · rw [show 255 = w4 0 0 0 255 from rfl, w4_and hb hc hd (by decide) (by decide) (by decide), and255 hd]; simp
theorem w4_parts {a b c d : Nat} (ha : a < 256) (hb : b < 256) (hc : c < 256) (hd : d < 256) : w4 a b c d / 16777216 = a ∧ w4 a b c d / 65536 % 256 = b ∧ w4 a b c d / 256 % 256 = c ∧ w4 a b c d % 256 = d := by
  unfold w4
  omega
theorem w4_ext {a b c d e f g h : Nat} (h1 : a = e) (h2 : b = f) (h3 : c = g) (h4 : d = h) : w4 a b c d = w4 e f g h := by rw [h1, h2, h3, h4]
/-- Twice a byte: linear. -/
theorem xt_parts (a : Nat) (h : a < 256) : (a &&& 127) * 2 ^^^ (a / 128 * 27) = xtN a := by
  have g : ∀ a : Fin 256, (a.val &&& 127) * 2 ^^^ (a.val / 128 * 27) = xtN a.val := by decide +kernel
  exact g ⟨a, h⟩
theorem xt_split (a : Nat) (h : a < 256) : (a ^^^ (a &&& 128)) * 2 = (a &&& 127) * 2 ∧ (a &&& 128) / 128 = a / 128 ∧ (a &&& 128) % 128 = 0 ∧ (a &&& 128) < 256 ∧ (a ^^^ (a &&& 128)) < 128 ∧ (a &&& 127) < 128 := by
  have g : ∀ a : Fin 256, (a.val ^^^ (a.val &&& 128)) * 2 = (a.val &&& 127) * 2 ∧ (a.val &&& 128) / 128 = a.val / 128 ∧ (a.val &&& 128) % 128 = 0 ∧ (a.val &&& 128) < 256 ∧ (a.val ^^^ (a.val &&& 128)) < 128 ∧ (a.val &&& 127) < 128 := by decide +kernel
  exact g ⟨a, h⟩
theorem xt_lin (a b : Nat) (ha : a < 256) (hb : b < 256) : xtN (a ^^^ b) = xtN a ^^^ xtN b := by
  have d : (a ^^^ b) / 128 = (a / 128) ^^^ (b / 128) := Nat.xor_div_two_pow (n := 7)
  have m : (a ^^^ b) &&& 127 = (a &&& 127) ^^^ (b &&& 127) := by rw [Nat.and_xor_distrib_right]
  rw [← xt_parts _ (xor_lt8 ha hb), ← xt_parts a ha, ← xt_parts b hb, d, m]
  have t : ((a &&& 127) ^^^ (b &&& 127)) * 2 = (a &&& 127) * 2 ^^^ (b &&& 127) * 2 := by
    have h := Nat.shiftLeft_xor_distrib (a := a &&& 127) (b := b &&& 127) (i := 1)
    simpa [Nat.shiftLeft_eq] using h
  have u : ((a / 128) ^^^ (b / 128)) * 27 = (a / 128) * 27 ^^^ (b / 128) * 27 := by
    rcases (show a / 128 = 0 ∨ a / 128 = 1 by omega) with h1 | h1 <;> rcases (show b / 128 = 0 ∨ b / 128 = 1 by omega) with h2 | h2 <;> rw [h1, h2] <;> rfl
  rw [t, u]
  generalize (a &&& 127) * 2 = p
  generalize (b &&& 127) * 2 = q
  generalize a / 128 * 27 = r
  generalize b / 128 * 27 = s
  ac_rfl
theorem gfm_two (a : Nat) (h : a < 256) : gfm a 2 = xtN a := by
  have g : ∀ a : Fin 256, gfm a.val 2 = xtN a.val := by decide +kernel
  exact g ⟨a, h⟩
theorem gfm_three (a : Nat) (h : a < 256) : gfm a 3 = a ^^^ xtN a := by
  have g : ∀ a : Fin 256, gfm a.val 3 = a.val ^^^ xtN a.val := by decide +kernel
  exact g ⟨a, h⟩
theorem dbl_one (x : Nat) (h : x < 256) : ((x * 2 % 256 : Nat) ^^^ (x / 128 * 27 % 256 : Nat)) = xtN x := by
  have g : ∀ x : Fin 256, ((x.val * 2 % 256 : Nat) ^^^ (x.val / 128 * 27 % 256 : Nat)) = xtN x.val := by decide +kernel
  exact g ⟨x, h⟩
end Go.Proofs.Ytclbfbkbmiijnaa
