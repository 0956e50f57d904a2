/- Texts joined: what they are for stands ahead of each. -/
import Derived.Test.YtefabimolfcllaaMM2
set_option linter.unusedSimpArgs false
set_option linter.unusedVariables false

/- The program's store: the pieces are written. -/
namespace Go.Proofs.Ytefabimolfcllaa
open Go.RowKit Go.Deep
set_option linter.unusedSimpArgs false
set_option linter.unusedVariables false

attribute [local go_sem] Oper.semAt_some

theorem exec_rowsP1 (ρ : Operand → Value) (x : Operand) (t : TypeId) (w : World) {v1 : Value} {l1 : List UInt8} (h1 : Bs w v1 l1) (hx : ρ x = v1) :
    (execOp ρ (mkOp (.buildSlice 94 1 #[(0, x)]) t)).run Try.prog w = .ok (.value (.slice (some ⟨w.heap.size, 0, none⟩) 1 1)) (w.alloc (.cells #[v1] 28)) := by
  obtain ⟨a1, c1, rfl, _⟩ := h1
  simp only [execOp, mkOp, List.map_toArray, List.map_cons, List.map_nil, hx]
  go_simp
theorem lf_rows1 {ops : Array Oper} {Q : Exit → Act → World → Prop} {E : World → World → Prop} {L i : Nat} {r : Stp} {a : Act} {w : World} {o : Oper} (d : Nat) (x : Operand) (ho : ops[i]? = some o) (hd : o.dst = some d) (hop : o.op = .buildSlice 94 1 #[(0, x)]) (hw : Region.wanted o (yielded ops a.tmps) = true)
    {v1 : Value} {l1 : List UInt8} (h1 : Bs w v1 l1) (hx : a.eval x = v1) (hE : ∀ w', Below w.heap.size w w' → E w w') (h : ∀ v w', Bss w' v [l1] → Below w.heap.size w w' → LinF Try.prog ops Q E L r (a.put (some d) v) w') : wpOp Try.prog ops Q i (fun a' w' => E w w' ∧ LinF Try.prog ops Q E L r a' w') a w := by
  have hb : Below w.heap.size w (w.alloc (.cells #[v1] 28)) := (Below.refl _ _).alloc (Nat.le_refl _) _
  exact linf_made d _ _ _ _ ho hd hop rfl hw (exec_rowsP1 a.eval x _ w h1 hx) (hE _ hb) (h _ _ (Bss.one h1 rfl) hb)
theorem linf_val {ops : Array Oper} {Q : Exit → Act → World → Prop} {E : World → World → Prop} {L : Nat} {a : Act} {w : World} {o : Oper} (d : Nat) (op : Op) (t : TypeId) (v : Value) (ho : ops[L]? = some o) (hd : o.dst = some d) (hop : o.op = op) (ht : o.type = t) (hw : Region.wanted o (yielded ops a.tmps) = true)
    (hx : (execOp a.eval (mkOp op t)).run Try.prog w = .ok (.value v) w) (h : Q .normal (a.put (some d) v) w) : LinF Try.prog ops Q E L .done a w := by
  show wpOp Try.prog ops Q L _ a w
  refine wpOp_step ho fun K' hK => ?_
  rw [if_pos hw]
  unfold Oper.wp
  rw [exec_mkOp, hop, ht, hx]
  refine hK _ _ ?_
  rw [hd]
  exact h
theorem addr_add_add (a : Addr) (m n : Nat) : (a.add m).add n = a.add (m + n) := by
  unfold Addr.add
  by_cases hm : m = 0 <;> by_cases hn : n = 0 <;> simp [hm, hn, Nat.add_assoc]
theorem bs_piece {W : World} {ax : Addr} {N cap : Nat} {b : List UInt8} (h : Bs W (.slice (some ax) N cap) b) (j : Nat) (hj : 56 * j < N) : Bs W (encP ax N j) (pieceL b j) := by
  obtain ⟨a, cap', e, h1, h2, h3, h4⟩ := h
  injection e with e1 e2 e3
  subst e1 e3
  have hl : (pieceL b j).length = min 56 (N - 56 * j) := by simp [pieceL, e2]
  refine ⟨some (ax.add (56 * j)), min 56 (N - 56 * j), by rw [hl]; rfl, by rw [hl]; exact Nat.le_refl _, by omega, (fun h => by cases h), fun x hx i hi => ?_⟩
  cases hx
  have hi2 : i < min 56 (N - 56 * j) := by rw [← hl]; exact hi
  obtain ⟨g1, g2⟩ := h4 _ rfl (56 * j + i) (by omega)
  refine ⟨by rw [add_block]; exact g1, ?_⟩
  rw [show (ax.add (56 * j)).add i = ax.add (56 * j + i) from addr_add_add ax _ _, g2]
  have e3 : (pieceL b j)[i]? = b[56 * j + i]? := by
    unfold pieceL
    rw [List.getElem?_take_of_lt (by omega), List.getElem?_drop]
  rw [List.getElem?_eq_getElem hi, List.getElem?_eq_getElem (by omega)] at e3
  rw [Option.some.inj e3]
theorem row_cell {W : World} {x : Nat} {t : TypeId} {v : Value} (h : W.rowIs x t 1 fun _ => v) : W.cell? ⟨x, 0, none⟩ = some v ∧ W.frozen? ⟨x, 0, none⟩ = false := by
  refine ⟨h.cell (i := 0) (by omega), ?_⟩
  obtain ⟨c, hc, _⟩ := h
  simp [World.frozen?, hc]
theorem results_cell {P : Program} {fn : Func} {p : Tmp} {ty : TypeId} {b : Nat} {v : Value} {tmps : Array Value} {w : World} (h : fn.results = #[.cell p ty]) (hu : (P.underlying ty).map (fun d => match d with | .struct _ | .array _ _ => true | _ => false) = some false)
    (hp : tmps.getD p undef = .pointer (some ⟨b, 0, none⟩)) (hc : w.cell? ⟨b, 0, none⟩ = some v) : (results fn tmps).run P w = .ok v w := by
  have hp' : tmps[p]?.getD undef = .pointer (some ⟨b, 0, none⟩) := by simpa using hp
  cases hd : P.underlying ty with
  | none => simp [hd] at hu
  | some d =>
    have hl : (loadVar ty ⟨b, 0, none⟩).run P w = .ok v w := by
      have hagg : (isAgg ty).run P w = .ok false w := by
        unfold isAgg
        rw [Sem.run_bind, run_underlying hd w]
        simp [hd] at hu
        cases d <;> simp_all
      simp [loadVar, Sem.run_bind, hagg, hc]
    simp [results, h, hp', asAddr, hl]
theorem wrN_n (S : DS) (c : Nat) (b : List UInt8) : ∀ j, (wrN S c b j).n = S.n
  | 0 => rfl
  | j + 1 => by
    show (opD (wrN S c b j)).n = _
    rw [(opD_same _).1, wrN_n S c b j]
theorem wrN_len (c : Nat) (b : List UInt8) (j : Nat) : (markedL (pieceL b j)).length = 64 := markedL_len _ (pieceL_len b j)
/-- What the rounds of write leave. -/
structure WrJ (T0 D0 : Nat → Prop) (w : World) (dp c s : Nat) (vs : Value) (b1 b2 N0 B : Nat) (R : DS) (i : Nat) (r : Int) (W : World) : Prop where
  dev : ∃ T D, BkAt T D W dp R ∧ (∀ x, T x → T0 x ∨ w.heap.size ≤ x) ∧ (∀ x, D x → D0 x ∨ w.heap.size ≤ x) ∧ ∀ x, (w.heap.size ≤ x ∧ x < w.heap.size + 4) ∨ x = b1 ∨ x = b2 ∨ x = N0 ∨ x = N0 + 1 → ¬ D x
  sam : Sam T0 w W
  h3 : W.rowIs w.heap.size 71 2 (hdF c s)
  h4 : W.rowIs (w.heap.size + 1) 24 1 fun _ => .pointer (some ⟨dp, 0, none⟩)
  h6 : W.rowIs (w.heap.size + 1 + 1) 31 1 fun _ => .int .i64 r
  h7 : W.rowIs (w.heap.size + 1 + 1 + 1) 3 1 fun _ => .int .i64 (i : Int)
  hb1 : W.cell? ⟨b1, 0, none⟩ = some vs
  hb2 : W.cell? ⟨b2, 0, none⟩ = some (.int .i64 56)
  size : N0 ≤ W.heap.size
theorem WrJ.stay {T0 D0 : Nat → Prop} {w : World} {dp c s : Nat} {vs : Value} {b1 b2 N0 B : Nat} {R : DS} {i : Nat} {r : Int} {W W' : World} (h : WrJ T0 D0 w dp c s vs b1 b2 N0 B R i r W) (hN : w.heap.size + 4 ≤ N0 ∧ b1 < N0 ∧ b2 < N0) (k : Sam (twoB N0) W W') : WrJ T0 D0 w dp c s vs b1 b2 N0 B R i r W' := by
  obtain ⟨T, D, q1, q2, q3, q4⟩ := h.dev
  have hz := h.size
  have no : ∀ x, x < N0 → ¬ twoB N0 x := fun x hx hh => by rcases hh with hh | hh <;> omega
  have cl : ∀ x v, x < N0 → W.cell? ⟨x, 0, none⟩ = some v → W'.cell? ⟨x, 0, none⟩ = some v := fun x v hx hc => by
    rw [← hc]
    exact World.cell?_of_block (k.block x (by omega) (no x hx))
  refine ⟨⟨T, D, dv_stay T D (twoB N0) _ _ _ _ q1 k (fun x hx => q4 x (by rcases hx with hx | hx <;> simp [hx])), q2, q3, q4⟩, ?_, Sam.row h.h3 k (no _ (by omega)), Sam.row h.h4 k (no _ (by omega)), Sam.row h.h6 k (no _ (by omega)), Sam.row h.h7 k (no _ (by omega)), cl _ _ hN.2.1 h.hb1, cl _ _ hN.2.2 h.hb2, Nat.le_trans hz k.size⟩
  exact ⟨k.os.trans h.sam.os, k.tape.trans h.sam.tape, k.output.trans h.sam.output, Nat.le_trans h.sam.size k.size, fun x hx hT => (k.block x (by have := h.sam.size; omega) (no x (by omega))).trans (h.sam.block x hx hT)⟩
theorem KeepTwo.trans {B : Nat} {X Y Z : World} (h : KeepTwo B X Y) (k : KeepTwo B Y Z) : KeepTwo B X Z := ⟨Nat.le_trans h.size k.size, k.one.trans h.one, k.two.trans h.two⟩
theorem KeepTwo.of_sam {F : Nat → Prop} {B : Nat} {X Y : World} (h : Sam F X Y) (hB : B + 1 < X.heap.size) (h1 : ¬ F B) (h2 : ¬ F (B + 1)) : KeepTwo B X Y := ⟨h.size, h.block _ (by omega) h1, h.block _ hB h2⟩
theorem WrJ.next {T0 D0 : Nat → Prop} {w : World} {dp c s : Nat} {vs : Value} {b1 b2 N0 B : Nat} {R : DS} {i : Nat} {r : Int} {W : World} (h : WrJ T0 D0 w dp c s vs b1 b2 N0 B R i r W) (hN : w.heap.size + 4 ≤ N0 ∧ b1 < N0 ∧ b2 < N0) (hlt : N0 + 1 < W.heap.size) {T D : Nat → Prop} (q1 : BkAt T D W dp R) (q2 : ∀ x, T x → T0 x ∨ w.heap.size ≤ x) (q3 : ∀ x, D x → D0 x ∨ w.heap.size ≤ x) (q4 : ∀ x, (w.heap.size ≤ x ∧ x < w.heap.size + 4) ∨ x = b1 ∨ x = b2 ∨ x = N0 ∨ x = N0 + 1 → ¬ D x)
    (w2 : World) (T2 D2 : Nat → Prop) (R2 : DS) (k : Sam T W w2) (hq : BkAt T2 D2 w2 dp R2) (hT : ∀ x, T2 x → T x ∨ W.heap.size ≤ x) (hD : ∀ x, D2 x → D x ∨ W.heap.size ≤ x) : WrJ T0 D0 w dp c s vs b1 b2 N0 B R2 i r w2 ∧ KeepTwo N0 W w2 := by
  have nt : ∀ x, (w.heap.size ≤ x ∧ x < w.heap.size + 4) ∨ x = b1 ∨ x = b2 ∨ x = N0 ∨ x = N0 + 1 → ¬ T x := fun x hx ht => q4 x hx (dv_sub T D W dp R q1 x ht)
  have hz := h.sam.size
  have cl : ∀ x v, x < W.heap.size → ¬ T x → W.cell? ⟨x, 0, none⟩ = some v → w2.cell? ⟨x, 0, none⟩ = some v := fun x v hx hn hc => by
    rw [← hc]
    exact World.cell?_of_block (k.block x hx hn)
  refine ⟨⟨⟨T2, D2, hq, fun x hx => ?_, fun x hx => ?_, fun x hx hd => ?_⟩, ?_, Sam.row h.h3 k (nt _ (.inl (by omega))), Sam.row h.h4 k (nt _ (.inl (by omega))), Sam.row h.h6 k (nt _ (.inl (by omega))), Sam.row h.h7 k (nt _ (.inl (by omega))), cl _ _ (by omega) (nt _ (by simp)) h.hb1, cl _ _ (by omega) (nt _ (by simp)) h.hb2, Nat.le_trans h.size k.size⟩, KeepTwo.of_sam k hlt (nt _ (by simp)) (nt _ (by simp))⟩
  · exact (hT x hx).elim (q2 x) fun h => .inr (Nat.le_trans hz h)
  · exact (hD x hx).elim (q3 x) fun h => .inr (Nat.le_trans hz h)
  · rcases hD x hd with h | h
    · exact q4 x hx h
    · rcases hx with hx | hx | hx | hx | hx <;> omega
  · exact ⟨k.os.trans h.sam.os, k.tape.trans h.sam.tape, k.output.trans h.sam.output, Nat.le_trans hz k.size, fun x hx hn => (k.block x (by omega) fun ht => (q2 x ht).elim hn fun h => by omega).trans (h.sam.block x hx hn)⟩
theorem WrJ.set {T0 D0 : Nat → Prop} {w : World} {dp c s : Nat} {vs : Value} {b1 b2 N0 B : Nat} {R : DS} {i : Nat} {r : Int} {W : World} (h : WrJ T0 D0 w dp c s vs b1 b2 N0 B R i r W) (hN : w.heap.size + 4 ≤ N0 ∧ b1 < N0 ∧ b2 < N0) (hb : w.heap.size + 4 ≤ b1 ∧ w.heap.size + 4 ≤ b2) (x : Nat) (v : Value) (hx : w.heap.size ≤ x ∧ x < w.heap.size + 4) :
    (∀ {y t n} {f : Nat → Value}, W.rowIs y t n f → y ≠ x → (W.setCell ⟨x, 0, none⟩ v).rowIs y t n f) ∧ (∃ T D, BkAt T D (W.setCell ⟨x, 0, none⟩ v) dp R ∧ (∀ x, T x → T0 x ∨ w.heap.size ≤ x) ∧ (∀ x, D x → D0 x ∨ w.heap.size ≤ x) ∧ ∀ x, (w.heap.size ≤ x ∧ x < w.heap.size + 4) ∨ x = b1 ∨ x = b2 ∨ x = N0 ∨ x = N0 + 1 → ¬ D x) ∧ Sam T0 w (W.setCell ⟨x, 0, none⟩ v) ∧ (W.setCell ⟨x, 0, none⟩ v).cell? ⟨b1, 0, none⟩ = some vs ∧ (W.setCell ⟨x, 0, none⟩ v).cell? ⟨b2, 0, none⟩ = some (.int .i64 56) ∧ N0 ≤ (W.setCell ⟨x, 0, none⟩ v).heap.size ∧ KeepTwo N0 W (W.setCell ⟨x, 0, none⟩ v) := by
  have k : Sam (fun b => b = x) W (W.setCell ⟨x, 0, none⟩ v) := Sam.set W ⟨x, 0, none⟩ v rfl
  obtain ⟨T, D, q1, q2, q3, q4⟩ := h.dev
  refine ⟨fun hr hn => Sam.row hr k hn, ⟨T, D, dv_stay T D _ _ _ _ _ q1 k (fun b hb => by rw [hb]; exact q4 x (.inl hx)), q2, q3, q4⟩, ?_, ?_, ?_, Nat.le_trans h.size k.size, ⟨k.size, Below.heap_setCell _ _ _ _ (by show ¬ N0 = x; omega), Below.heap_setCell _ _ _ _ (by show ¬ N0 + 1 = x; omega)⟩⟩
  · exact ⟨k.os.trans h.sam.os, k.tape.trans h.sam.tape, k.output.trans h.sam.output, Nat.le_trans h.sam.size k.size, fun y hy hn => (k.block y (by have := h.sam.size; omega) (by omega)).trans (h.sam.block y hy hn)⟩
  · rw [← h.hb1]; exact World.cell?_of_block (k.block b1 (by have := h.size; omega) (by show ¬ b1 = x; omega))
  · rw [← h.hb2]; exact World.cell?_of_block (k.block b2 (by have := h.size; omega) (by show ¬ b2 = x; omega))
theorem WrJ.set7 {T0 D0 : Nat → Prop} {w : World} {dp c s : Nat} {vs : Value} {b1 b2 N0 B : Nat} {R : DS} {i : Nat} {r : Int} {W : World} (h : WrJ T0 D0 w dp c s vs b1 b2 N0 B R i r W) (hN : w.heap.size + 4 ≤ N0 ∧ b1 < N0 ∧ b2 < N0) (hb : w.heap.size + 4 ≤ b1 ∧ w.heap.size + 4 ≤ b2) (j : Nat) :
    WrJ T0 D0 w dp c s vs b1 b2 N0 B R j r (W.setCell ⟨w.heap.size + 1 + 1 + 1, 0, none⟩ (.int .i64 (j : Int))) ∧ KeepTwo N0 W (W.setCell ⟨w.heap.size + 1 + 1 + 1, 0, none⟩ (.int .i64 (j : Int))) := by
  obtain ⟨a1, a2, a3, a4, a5, a6, a7⟩ := h.set hN hb (w.heap.size + 1 + 1 + 1) (.int .i64 (j : Int)) (by omega)
  exact ⟨⟨a2, a3, a1 h.h3 (by omega), a1 h.h4 (by omega), a1 h.h6 (by omega), rowIs_setW rfl h.h7 (fun q hq => by rw [if_pos (by omega)]), a4, a5, a6⟩, a7⟩
theorem WrJ.set6 {T0 D0 : Nat → Prop} {w : World} {dp c s : Nat} {vs : Value} {b1 b2 N0 B : Nat} {R : DS} {i : Nat} {r : Int} {W : World} (h : WrJ T0 D0 w dp c s vs b1 b2 N0 B R i r W) (hN : w.heap.size + 4 ≤ N0 ∧ b1 < N0 ∧ b2 < N0) (hb : w.heap.size + 4 ≤ b1 ∧ w.heap.size + 4 ≤ b2) (q : Int) :
    WrJ T0 D0 w dp c s vs b1 b2 N0 B R i q (W.setCell ⟨w.heap.size + 1 + 1, 0, none⟩ (.int .i64 q)) ∧ KeepTwo N0 W (W.setCell ⟨w.heap.size + 1 + 1, 0, none⟩ (.int .i64 q)) := by
  obtain ⟨a1, a2, a3, a4, a5, a6, a7⟩ := h.set hN hb (w.heap.size + 1 + 1) (.int .i64 q) (by omega)
  exact ⟨⟨a2, a3, a1 h.h3 (by omega), a1 h.h4 (by omega), rowIs_setW rfl h.h6 (fun q hq => by rw [if_pos (by omega)]), a1 h.h7 (by omega), a4, a5, a6⟩, a7⟩
/-- A round's op: what Write answers and leaves. -/
theorem wrE_yes {R : DS} {k : Nat} {l : List UInt8} (hk : k < R.n) (hl : l.length = 64) (ho : opOk R = true) : wrE R (k : Int) l = 0 ∧ wrT R (k : Int) l = wrS R k l := by
  have ha : argS R (k : Int) l = true := by unfold argS; simp [hk, hl]
  unfold wrE wrT
  rw [if_pos ha, if_pos ho, if_pos ha, if_pos ho]
  exact ⟨rfl, rfl⟩
theorem wrE_off {R : DS} {k : Nat} {l : List UInt8} (hk : k < R.n) (hl : l.length = 64) (ho : opOk R = false) : wrE R (k : Int) l = 10 ∧ wrT R (k : Int) l = opD R := by
  have ha : argS R (k : Int) l = true := by unfold argS; simp [hk, hl]
  unfold wrE wrT
  rw [if_pos ha, if_neg (by rw [ho]; decide), if_pos ha, if_neg (by rw [ho]; decide)]
  exact ⟨rfl, rfl⟩
/-- What write answers and leaves. -/
def WrOut (T0 D0 : Nat → Prop) (w : World) (dp B c : Nat) (S : DS) (b : List UInt8) (e : Ending) (w' : World) : Prop :=
  ∃ (r : Int) (S' : DS), e = .returned (.int .i64 r) ∧ BkNew BkAt T0 D0 w dp S' w' ∧ ((r = 0 ∧ (∀ i, i < pcs b.length → opOk (wrN S c b i) = true) ∧ S' = wrN S c b (pcs b.length)) ∨ (r = 10 ∧ ∃ j, j < pcs b.length ∧ (∀ i, i < j → opOk (wrN S c b i) = true) ∧ opOk (wrN S c b j) = false ∧ S' = opD (wrN S c b j)))
set_option maxHeartbeats 4000000 in
set_option maxRecDepth 20000 in
theorem write_some (T0 D0 : Nat → Prop) (w : World) (dp B c s : Nat) (S : DS) (b : List UInt8) (ax : Addr) (N cap : Nat) (h : BkAt T0 D0 w dp S) (hs : okD S B) (hB : B ≤ 99000) (hn : b.length = N) (hl : b.length ≤ roomN S.n) (hn2 : S.n ≤ 256) (hc : c ≤ 2000000) (hNc : N ≤ cap) (hb : BsK T0 w (.slice (some ax) N cap) b) : Calls Try.prog 38 #[.agg (arrOf 2 (hdF c s)), .pointer (some ⟨dp, 0, none⟩), .slice (some ax) N cap] w fun e w' => WrOut T0 D0 w dp B c S b e w' := by
  have HH := Lib.hid h
  have HS := Lib.hid hs
  have HBB := Lib.hid hB
  have HNB := Lib.hid hn
  have HRM := Lib.hid hl
  have HN2 := Lib.hid hn2
  have HCC := Lib.hid hc
  have HNC := Lib.hid hNc
  have HBS := Lib.hid hb
  have HN5 : Hid (N ≤ 5120) := Lib.hid (by rw [← hn]; unfold roomN at hl; split at hl <;> omega)
  clear h hs hB hl hn2 hc hNc hb hn
  refine (callsIn_wide (n := 6)).1 ?_
  refine callsIn_of_wp_marks Try.func38 rfl trivial ?_ rfl
  simp only [Try.ntmps38, List.size_toArray, List.length_cons, List.length_nil, Nat.reduceAdd, Nat.reduceSub, Array.replicate_succ, Array.replicate_zero, List.push_toArray, List.append_toArray, List.nil_append, List.cons_append]
  have hro : Fence.wide.round = none := rfl
  gi_wp2_with (first
    | (refine ⟨trivial, ?_⟩
       gi_at_call 52
       refine ((callsIn_wide (n := _)).2 (chunk_any (some ax) N cap _)).mono ?_
       rintro e w4 ⟨b1, b2, rfl, lb1, lb2, hl1, hl2, hc1, hc2, kk⟩))
  have r3 := (((rowIs_arr w 2 (hdF c s) 71).alloc (.cells #[.pointer (some ⟨dp, 0, none⟩)] 24)).alloc (.cells #[.int .i64 0] 31)).alloc (.cells #[.int .i64 0] 3)
  have r4 := ((rowIs_arr (w.alloc (.cells (arrOf 2 (hdF c s)) 71)) 1 (fun _ => .pointer (some ⟨dp, 0, none⟩)) 24).alloc (.cells #[.int .i64 0] 31)).alloc (.cells #[.int .i64 0] 3)
  have r6 := (rowIs_arr ((w.alloc (.cells (arrOf 2 (hdF c s)) 71)).alloc (.cells #[.pointer (some ⟨dp, 0, none⟩)] 24)) 1 (fun _ => .int .i64 0) 31).alloc (.cells #[.int .i64 0] 3)
  have r7 := rowIs_arr (((w.alloc (.cells (arrOf 2 (hdF c s)) 71)).alloc (.cells #[.pointer (some ⟨dp, 0, none⟩)] 24)).alloc (.cells #[.int .i64 0] 31)) 1 (fun _ => .int .i64 0) 3
  have k4 : Below w.heap.size w w4 := Below.trans ((((Below.refl _ w).alloc (Nat.le_refl _) _).alloc (by simp only [World.size_alloc]; omega) _).alloc (by simp only [World.size_alloc]; omega) _ |>.alloc (by simp only [World.size_alloc]; omega) _) (kk.mono (by simp only [World.size_alloc]; omega))
  obtain ⟨w3, hw3⟩ : ∃ w3, w3 = ((((w.alloc (.cells (arrOf 2 (hdF c s)) 71)).alloc (.cells #[.pointer (some ⟨dp, 0, none⟩)] 24)).alloc (.cells #[.int .i64 0] 31)).alloc (.cells #[.int .i64 0] 3)) := ⟨_, rfl⟩
  have hz3 : w3.heap.size = w.heap.size + 4 := by rw [hw3]; simp
  simp only [World.size_alloc] at r4 r6 r7
  have J0 : WrJ T0 D0 w dp c s (.slice (some ax) N cap) b1 b2 w4.heap.size B S 0 0 w4 := by
    have hlD := dv_lt T0 D0 w dp S HH.out
    have hz : w.heap.size + 4 ≤ b1 ∧ w.heap.size + 4 ≤ b2 := by simp only [World.size_alloc] at lb1 lb2; omega
    refine ⟨⟨T0, D0, dv_stay T0 D0 (fun _ => False) _ _ _ _ HH.out (Sam.of_below k4) (fun _ h => h.elim), fun x h => .inl h, fun x h => .inl h, fun x hx hd => ?_⟩, Sam.of_below k4, zrb r3 kk, zrb r4 kk, zrb r6 kk, zrb r7 kk, hc1, hc2, Nat.le_refl _⟩
    have := hlD x hd
    have := k4.size
    rcases hx with hx | hx | hx | hx | hx <;> omega
  have HNN : Hid (w.heap.size + 4 ≤ w4.heap.size ∧ b1 < w4.heap.size ∧ b2 < w4.heap.size) := Lib.hid ⟨by have := kk.size; simp only [World.size_alloc] at this; omega, hl1, hl2⟩
  have HB12 : Hid (w.heap.size + 4 ≤ b1 ∧ w.heap.size + 4 ≤ b2) := Lib.hid (by simp only [World.size_alloc] at lb1 lb2; omega)
  clear r3 r4 r6 r7 kk k4 hw3 hz3 hc1 hc2 hl1 hl2 lb1 lb2
  refine wpIn_rangeFunc_two (F := Fence.wide) (n := 6) hro (by omega) (gf := 61) (lb := #[.pointer (some ⟨b1, 0, none⟩), .pointer (some ⟨b2, 0, none⟩)]) rfl trivial (enters_of Try.func61 (by kernel_rfl) rfl)
    (chunk1_iter (6 - 1) b1 b2 (by omega) ax N cap (by have := HN5.out; omega) HNC.out) rfl
    (fun j W => (j ≤ pcs N ∧ ∀ i, i < j → opOk (wrN S c b i) = true) ∧ okD (wrN S c b j) (B + j) ∧ WrJ T0 D0 w dp c s (.slice (some ax) N cap) b1 b2 w4.heap.size B (wrN S c b j) j 0 W)
    (fun W => ∃ j, j < pcs N ∧ ((∀ i, i < j → opOk (wrN S c b i) = true) ∧ opOk (wrN S c b j) = false) ∧ WrJ T0 D0 w dp c s (.slice (some ax) N cap) b1 b2 w4.heap.size B (opD (wrN S c b j)) j 10 W)
    (fun j W W' h k => ⟨h.1, h.2.1, h.2.2.stay HNN.out k⟩) (fun W W' ⟨j, h1, h2, h3⟩ k => ⟨j, h1, h2, h3.stay HNN.out k⟩) (fun j W h => ⟨h.2.2.hb1, h.2.2.hb2, by have := h.2.2.size; have := HNN.out; omega, by have := h.2.2.size; have := HNN.out; omega⟩) ⟨⟨Nat.zero_le _, fun i hi => absurd hi (Nat.not_lt_zero _)⟩, HS.out, J0⟩
    (fun j => { tmps := #[.agg (arrOf 2 (hdF c s)), .pointer (some ⟨dp, 0, none⟩), .slice (some ax) N cap, .pointer (some ⟨w.heap.size, 0, none⟩), .pointer (some ⟨w.heap.size + 1, 0, none⟩), undef, .pointer (some ⟨w.heap.size + 1 + 1, 0, none⟩), .pointer (some ⟨w.heap.size + 1 + 1 + 1, 0, none⟩), encP ax N j, undef, .slice (some ax) N cap, .func (.func 61) #[] #[.pointer (some ⟨b1, 0, none⟩), .pointer (some ⟨b2, 0, none⟩)], encP ax N j, undef, undef, undef, undef, undef, undef, undef, undef, undef, undef, undef, undef, undef], defers := [] }) ?assign ?body ?done ?stop
  case assign =>
    intro l j W K hK
    gi_wp2
    exact hK
  case body =>
    intro l j W ⟨⟨hj, hall⟩, hok, hJ⟩ hjm hlt
    clear J0
    have HALL := Lib.hid hall
    clear hall
    obtain ⟨T, D, q1, q2, q3, q4⟩ := hJ.dev
    have HJM := Lib.hid hjm
    have HJ := Lib.hid hJ
    have HLT := Lib.hid hlt
    have HJN : Hid (56 * j < N) := Lib.hid (by unfold pcs at hjm; omega)
    have HC : Hid (c ≤ 2000000 ∧ j ≤ 100000) := Lib.hid ⟨HCC.out, by have := HN5.out; unfold pcs at hjm; omega⟩
    have HOK := Lib.hid hok
    have HBL : Hid (B + j ≤ 100000) := Lib.hid (by have := HN5.out; have := HBB.out; unfold pcs at hjm; omega)
    have hwn : (wrN S c b j).n = S.n := wrN_n S c b j
    have hpl : placeN c j < (wrN S c b j).n := by rw [hwn]; exact (room_pcs HN2.out HRM.out (by rw [HNB.out]; exact hjm) c).1
    have HQ : Hid (BkAt T D W.drew dp (wrN S c b j)) := Lib.hid (dv_stay T D (fun _ => False) _ _ _ _ q1 (Sam.refl _ _).drew (fun _ h => h.elim))
    have HNT : Hid (∀ x, (w.heap.size ≤ x ∧ x < w.heap.size + 4) ∨ x = b1 ∨ x = b2 ∨ x = w4.heap.size ∨ x = w4.heap.size + 1 → ¬ T x) := Lib.hid fun x hx ht => q4 x hx (dv_sub T D W dp _ q1 x ht)
    have HTB : Hid (∀ x, T x → x < W.heap.size) := Lib.hid fun x hx => dv_lt T D W dp _ q1 x (dv_sub T D W dp _ q1 x hx)
    have HST : Hid (∀ w', Sam T W w' → Sam T0 w w') := Lib.hid fun w' k => ⟨k.os.trans hJ.sam.os, k.tape.trans hJ.sam.tape, k.output.trans hJ.sam.output, Nat.le_trans hJ.sam.size k.size, fun x hx hn => (k.block x (by have := hJ.sam.size; omega) fun ht => (q2 x ht).elim hn fun h => by omega).trans (hJ.sam.block x hx hn)⟩
    have HNX := Lib.hid (fun w2 T2 D2 R2 => hJ.next HNN.out hlt q1 q2 q3 q4 w2 T2 D2 R2)
    cases ho : opOk (wrN S c b j) with
    | true =>
      obtain ⟨e1, e2⟩ := wrE_yes hpl (wrN_len c b j) ho
      have HO := Lib.hid ho
      have HWE := Lib.hid e1
      have HWT := Lib.hid e2
      have hok2 := wrT_ok hok (placeN c j : Int) (markedL (pieceL b j))
      rw [e2] at hok2
      have HOK2 : Hid (okD (wrN S c b (j + 1)) (B + (j + 1))) := Lib.hid hok2
      have hwj : IntKind.i64.wrap ((j : Int) + 1) = ((j + 1 : Nat) : Int) := by rw [IntWalk.i64_in _ (by have := HC.out.2; omega)]; omega
      obtain ⟨j1, hj1⟩ : ∃ j1, j1 = j + 1 := ⟨_, rfl⟩
      rw [← hj1] at hwj HOK2
      have HJ1 := Lib.hid hj1
      have HFY : Hid (∀ W2, WrJ T0 D0 w dp c s (.slice (some ax) N cap) b1 b2 w4.heap.size B (wrS (wrN S c b j) (placeN c j) (markedL (pieceL b j))) j 0 W2 → KeepTwo w4.heap.size W W2 → KeepTwo w4.heap.size W (W2.setCell ⟨w.heap.size + 1 + 1 + 1, 0, none⟩ (.int .i64 (j1 : Int))) ∧ (j + 1 ≤ pcs N ∧ ∀ i, i < j + 1 → opOk (wrN S c b i) = true) ∧ okD (wrN S c b (j + 1)) (B + (j + 1)) ∧ WrJ T0 D0 w dp c s (.slice (some ax) N cap) b1 b2 w4.heap.size B (wrN S c b (j + 1)) (j + 1) 0 (W2.setCell ⟨w.heap.size + 1 + 1 + 1, 0, none⟩ (.int .i64 (j1 : Int)))) := Lib.hid fun W2 g1 g2 => by
        obtain ⟨g3, g4⟩ := g1.set7 HNN.out HB12.out j1
        have := HOK2.out
        rw [HJ1.out] at this g3 g4 ⊢
        exact ⟨g2.trans g4, ⟨HJM.out, fun i hi => by
          rcases Nat.lt_or_ge i j with h | h
          · exact HALL.out i h
          · obtain rfl : i = j := by omega
            exact HO.out⟩, this, g3⟩
      clear hj hok hJ hjm hlt q1 q2 q3 q4 hwn hpl ho e1 e2 hok2 hj1
      obtain ⟨R, hR⟩ : ∃ R, R = wrN S c b j := ⟨_, rfl⟩
      gi_wp2
      have HE : Sam T W W.drew := (Sam.refl _ _).drew
      refine wpIn_region_linf (Sam T) (fun w => Sam.refl _ w) (fun _ _ _ h k => h.trans k) 8 24 (.rd 0 (.rd 1 (.rd 2 (.rd 4 (.br 3 (.wr 5 (.wr 6 (.wr 7 .done))) 5 (.wr 3 (.wr 6 (.wr 7 .done)))))))) (by kernel_rfl) (by kernel_rfl) (by decide) (by kernel_rfl) (fun d _ _ _ _ h => by cases d <;> exact h) (by kernel_rfl) (fun ⟨_, _, h⟩ => h) ?_
      refine linf_pure 13 _ _ (.pointer (some ⟨dp, 0, none⟩)) rfl rfl rfl rfl rfl (fun wx hx => exec_loadG _ _ _ _ _ HJ.out.h4 (HE.trans hx) (HNT.out _ (.inl ⟨by omega, by omega⟩)) rfl (by omega) rfl (by kernel_rfl)) ?_
      simp only [Act.put, zA, zB, zC]
      refine linf_pure 14 _ _ (.agg (arrOf 2 (hdF c s))) rfl rfl rfl rfl rfl (fun wx hx => exec_load_as _ _ _ _ (hdF c s) rfl isHead (Sam.row HJ.out.h3 (HE.trans hx) (HNT.out _ (.inl ⟨by omega, by omega⟩))) (by omega) (fun i _ => by rw [Nat.zero_add])) ?_
      simp only [Act.put, zA, zB, zC]
      refine linf_pure 15 _ _ (.int .i64 (j : Int)) rfl rfl rfl rfl rfl (fun wx hx => exec_loadG _ _ _ _ _ HJ.out.h7 (HE.trans hx) (HNT.out _ (.inl ⟨by omega, by omega⟩)) rfl (by omega) rfl (by kernel_rfl)) ?_
      simp only [Act.put, zA, zB, zC]
      refine linf_pure 17 _ _ (encP ax N j) rfl rfl rfl rfl rfl (fun wx hx => by unfold mkOp; go_simp; all_goals (with_reducible rfl)) ?_
      simp only [Act.put, zA, zB, zC]
      refine ⟨?_, ?_⟩
      · skip
        refine linf_fn 16 51 _ _ _ (place_any c s j _ HC.out.1 HC.out.2) rfl rfl rfl rfl Try.func51 (by kernel_rfl) (by kernel_rfl) (by go_simp) ?_
        rintro e wf16 ⟨rfl, kk⟩
        refine ⟨_, rfl, Sam.of_below kk, ?_⟩
        have HQn := Lib.hid (dv_stay T D (fun _ => False) _ _ _ _ HQ.out (Sam.of_below kk) (fun _ h => h.elim))
        clear HQ
        have HQ := HQn
        clear HQn
        replace HE := HE.trans (Sam.of_below kk)
        try replace f_18 := f_18.below kk (Nat.le_refl _)
        clear kk
        simp only [Act.put, zA, zB, zC]
        refine lf_rows1 18 (.tmp 17) rfl rfl rfl rfl (bs_piece (HBS.out _ (HST.out _ HE)) j HJN.out) rfl (fun w' kb => Sam.of_below kb) ?_
        intro v_18 wf18 f_18 kk
        have HQn := Lib.hid (dv_stay T D (fun _ => False) _ _ _ _ HQ.out (Sam.of_below kk) (fun _ h => h.elim))
        clear HQ
        have HQ := HQn
        clear HQn
        replace HE := HE.trans (Sam.of_below kk)
        clear kk
        simp only [Act.put, zA, zB, zC]
        refine linf_fn 19 53 _ _ _ (marked_any _ _ _ f_18 (by simpa using pieceL_len b j)) rfl rfl rfl rfl Try.func53 (by kernel_rfl) (by kernel_rfl) (by go_simp) ?_
        rintro e wf19 ⟨v_19, rfl, o_19, kk⟩
        refine ⟨_, rfl, Sam.of_below kk, ?_⟩
        have HM : Hid (∀ x, T x → x < _) := Lib.hid fun x hx => Nat.lt_of_lt_of_le (HTB.out x hx) HE.size
        have HBK := Lib.hid (BsK.own (M := T) o_19 HM.out)
        have HQn := Lib.hid (dv_stay T D (fun _ => False) _ _ _ _ HQ.out (Sam.of_below kk) (fun _ h => h.elim))
        clear HQ
        have HQ := HQn
        clear HQn
        replace HE := HE.trans (Sam.of_below kk)
        clear kk o_19 HM
        rw [show [pieceL b j].flatten = pieceL b j by simp] at HBK
        simp only [Act.put, zA, zB, zC]
        refine linf_fn 20 39 _ _ _ (write_any T D _ dp (wrN S c b j) (B + j) (placeN c j : Int) v_19 (markedL (pieceL b j)) HQ.out HOK.out HBL.out HBK.out) rfl rfl rfl rfl Try.func39 (by kernel_rfl) (by kernel_rfl) (by go_simp) ?_
        rintro e wf20 ⟨rfl, T2, D2, hq2, hs2, ht2, hd2⟩
        refine ⟨_, rfl, hs2, ?_⟩
        rw [HWE.out]
        rw [HWT.out] at hq2
        have HQ2 := Lib.hid hq2
        have HE2 := HE.trans hs2
        have HT2 := Lib.hid ht2
        have HD2 : Hid (∀ x, D2 x → D x ∨ W.heap.size ≤ x) := Lib.hid fun x hx => (hd2 x hx).imp id fun h => Nat.le_trans HE.size h
        have HT3 : Hid (∀ x, T2 x → T x ∨ W.heap.size ≤ x) := Lib.hid fun x hx => (ht2 x hx).imp id fun h => Nat.le_trans HE.size h
        clear hq2 hs2 ht2 hd2 HQ HE HBK HT2
        obtain ⟨J2, K2⟩ := HNX.out _ T2 D2 _ HE2 HQ2.out HT3.out HD2.out
        simp only [Act.put, zA, zB, zC]
        obtain ⟨c7, f7⟩ := row_cell J2.h7
        refine linf_val 9 (.assign (.tmp 20)) _ (.int .i64 0) rfl rfl rfl rfl rfl (by unfold mkOp; go_simp) ?_
        gi_wp2
        exact HFY.out _ J2 K2
      · skip
        refine lf_rows1 18 (.tmp 17) rfl rfl rfl rfl (bs_piece (HBS.out _ (HST.out _ HE)) j HJN.out) rfl (fun w' kb => Sam.of_below kb) ?_
        intro v_18 wf18 f_18 kk
        have HQn := Lib.hid (dv_stay T D (fun _ => False) _ _ _ _ HQ.out (Sam.of_below kk) (fun _ h => h.elim))
        clear HQ
        have HQ := HQn
        clear HQn
        replace HE := HE.trans (Sam.of_below kk)
        clear kk
        simp only [Act.put, zA, zB, zC]
        refine linf_fn 16 51 _ _ _ (place_any c s j _ HC.out.1 HC.out.2) rfl rfl rfl rfl Try.func51 (by kernel_rfl) (by kernel_rfl) (by go_simp) ?_
        rintro e wf16 ⟨rfl, kk⟩
        refine ⟨_, rfl, Sam.of_below kk, ?_⟩
        have HQn := Lib.hid (dv_stay T D (fun _ => False) _ _ _ _ HQ.out (Sam.of_below kk) (fun _ h => h.elim))
        clear HQ
        have HQ := HQn
        clear HQn
        replace HE := HE.trans (Sam.of_below kk)
        try replace f_18 := f_18.below kk (Nat.le_refl _)
        clear kk
        simp only [Act.put, zA, zB, zC]
        refine linf_fn 19 53 _ _ _ (marked_any _ _ _ f_18 (by simpa using pieceL_len b j)) rfl rfl rfl rfl Try.func53 (by kernel_rfl) (by kernel_rfl) (by go_simp) ?_
        rintro e wf19 ⟨v_19, rfl, o_19, kk⟩
        refine ⟨_, rfl, Sam.of_below kk, ?_⟩
        have HM : Hid (∀ x, T x → x < _) := Lib.hid fun x hx => Nat.lt_of_lt_of_le (HTB.out x hx) HE.size
        have HBK := Lib.hid (BsK.own (M := T) o_19 HM.out)
        have HQn := Lib.hid (dv_stay T D (fun _ => False) _ _ _ _ HQ.out (Sam.of_below kk) (fun _ h => h.elim))
        clear HQ
        have HQ := HQn
        clear HQn
        replace HE := HE.trans (Sam.of_below kk)
        clear kk o_19 HM
        rw [show [pieceL b j].flatten = pieceL b j by simp] at HBK
        simp only [Act.put, zA, zB, zC]
        refine linf_fn 20 39 _ _ _ (write_any T D _ dp (wrN S c b j) (B + j) (placeN c j : Int) v_19 (markedL (pieceL b j)) HQ.out HOK.out HBL.out HBK.out) rfl rfl rfl rfl Try.func39 (by kernel_rfl) (by kernel_rfl) (by go_simp) ?_
        rintro e wf20 ⟨rfl, T2, D2, hq2, hs2, ht2, hd2⟩
        refine ⟨_, rfl, hs2, ?_⟩
        rw [HWE.out]
        rw [HWT.out] at hq2
        have HQ2 := Lib.hid hq2
        have HE2 := HE.trans hs2
        have HT2 := Lib.hid ht2
        have HD2 : Hid (∀ x, D2 x → D x ∨ W.heap.size ≤ x) := Lib.hid fun x hx => (hd2 x hx).imp id fun h => Nat.le_trans HE.size h
        have HT3 : Hid (∀ x, T2 x → T x ∨ W.heap.size ≤ x) := Lib.hid fun x hx => (ht2 x hx).imp id fun h => Nat.le_trans HE.size h
        clear hq2 hs2 ht2 hd2 HQ HE HBK HT2
        obtain ⟨J2, K2⟩ := HNX.out _ T2 D2 _ HE2 HQ2.out HT3.out HD2.out
        simp only [Act.put, zA, zB, zC]
        obtain ⟨c7, f7⟩ := row_cell J2.h7
        refine linf_val 9 (.assign (.tmp 20)) _ (.int .i64 0) rfl rfl rfl rfl rfl (by unfold mkOp; go_simp) ?_
        gi_wp2
        exact HFY.out _ J2 K2
    | false =>
      obtain ⟨e1, e2⟩ := wrE_off hpl (wrN_len c b j) ho
      have HWE := Lib.hid e1
      have HWT := Lib.hid e2
      have HO := Lib.hid ho
      have HFN : Hid (∀ W2, WrJ T0 D0 w dp c s (.slice (some ax) N cap) b1 b2 w4.heap.size B (opD (wrN S c b j)) j 0 W2 → KeepTwo w4.heap.size W W2 → KeepTwo w4.heap.size W (W2.setCell ⟨w.heap.size + 1 + 1, 0, none⟩ (.int .i64 10)) ∧ ∃ j, j < pcs N ∧ ((∀ i, i < j → opOk (wrN S c b i) = true) ∧ opOk (wrN S c b j) = false) ∧ WrJ T0 D0 w dp c s (.slice (some ax) N cap) b1 b2 w4.heap.size B (opD (wrN S c b j)) j 10 (W2.setCell ⟨w.heap.size + 1 + 1, 0, none⟩ (.int .i64 10))) := Lib.hid fun W2 g1 g2 => by
        obtain ⟨g3, g4⟩ := g1.set6 HNN.out HB12.out 10
        exact ⟨g2.trans g4, j, HJM.out, ⟨HALL.out, HO.out⟩, g3⟩
      clear hj hok hJ hjm hlt q1 q2 q3 q4 hwn hpl ho e1 e2
      gi_wp2
      have HE : Sam T W W.drew := (Sam.refl _ _).drew
      refine wpIn_region_linf (Sam T) (fun w => Sam.refl _ w) (fun _ _ _ h k => h.trans k) 8 24 (.rd 0 (.rd 1 (.rd 2 (.rd 4 (.br 3 (.wr 5 (.wr 6 (.wr 7 .done))) 5 (.wr 3 (.wr 6 (.wr 7 .done)))))))) (by kernel_rfl) (by kernel_rfl) (by decide) (by kernel_rfl) (fun d _ _ _ _ h => by cases d <;> exact h) (by kernel_rfl) (fun ⟨_, _, h⟩ => h) ?_
      refine linf_pure 13 _ _ (.pointer (some ⟨dp, 0, none⟩)) rfl rfl rfl rfl rfl (fun wx hx => exec_loadG _ _ _ _ _ HJ.out.h4 (HE.trans hx) (HNT.out _ (.inl ⟨by omega, by omega⟩)) rfl (by omega) rfl (by kernel_rfl)) ?_
      simp only [Act.put, zA, zB, zC]
      refine linf_pure 14 _ _ (.agg (arrOf 2 (hdF c s))) rfl rfl rfl rfl rfl (fun wx hx => exec_load_as _ _ _ _ (hdF c s) rfl isHead (Sam.row HJ.out.h3 (HE.trans hx) (HNT.out _ (.inl ⟨by omega, by omega⟩))) (by omega) (fun i _ => by rw [Nat.zero_add])) ?_
      simp only [Act.put, zA, zB, zC]
      refine linf_pure 15 _ _ (.int .i64 (j : Int)) rfl rfl rfl rfl rfl (fun wx hx => exec_loadG _ _ _ _ _ HJ.out.h7 (HE.trans hx) (HNT.out _ (.inl ⟨by omega, by omega⟩)) rfl (by omega) rfl (by kernel_rfl)) ?_
      simp only [Act.put, zA, zB, zC]
      refine linf_pure 17 _ _ (encP ax N j) rfl rfl rfl rfl rfl (fun wx hx => by unfold mkOp; go_simp; all_goals (with_reducible rfl)) ?_
      simp only [Act.put, zA, zB, zC]
      refine ⟨?_, ?_⟩
      · skip
        refine linf_fn 16 51 _ _ _ (place_any c s j _ HC.out.1 HC.out.2) rfl rfl rfl rfl Try.func51 (by kernel_rfl) (by kernel_rfl) (by go_simp) ?_
        rintro e wf16 ⟨rfl, kk⟩
        refine ⟨_, rfl, Sam.of_below kk, ?_⟩
        have HQn := Lib.hid (dv_stay T D (fun _ => False) _ _ _ _ HQ.out (Sam.of_below kk) (fun _ h => h.elim))
        clear HQ
        have HQ := HQn
        clear HQn
        replace HE := HE.trans (Sam.of_below kk)
        try replace f_18 := f_18.below kk (Nat.le_refl _)
        clear kk
        simp only [Act.put, zA, zB, zC]
        refine lf_rows1 18 (.tmp 17) rfl rfl rfl rfl (bs_piece (HBS.out _ (HST.out _ HE)) j HJN.out) rfl (fun w' kb => Sam.of_below kb) ?_
        intro v_18 wf18 f_18 kk
        have HQn := Lib.hid (dv_stay T D (fun _ => False) _ _ _ _ HQ.out (Sam.of_below kk) (fun _ h => h.elim))
        clear HQ
        have HQ := HQn
        clear HQn
        replace HE := HE.trans (Sam.of_below kk)
        clear kk
        simp only [Act.put, zA, zB, zC]
        refine linf_fn 19 53 _ _ _ (marked_any _ _ _ f_18 (by simpa using pieceL_len b j)) rfl rfl rfl rfl Try.func53 (by kernel_rfl) (by kernel_rfl) (by go_simp) ?_
        rintro e wf19 ⟨v_19, rfl, o_19, kk⟩
        refine ⟨_, rfl, Sam.of_below kk, ?_⟩
        have HM : Hid (∀ x, T x → x < _) := Lib.hid fun x hx => Nat.lt_of_lt_of_le (HTB.out x hx) HE.size
        have HBK := Lib.hid (BsK.own (M := T) o_19 HM.out)
        have HQn := Lib.hid (dv_stay T D (fun _ => False) _ _ _ _ HQ.out (Sam.of_below kk) (fun _ h => h.elim))
        clear HQ
        have HQ := HQn
        clear HQn
        replace HE := HE.trans (Sam.of_below kk)
        clear kk o_19 HM
        rw [show [pieceL b j].flatten = pieceL b j by simp] at HBK
        simp only [Act.put, zA, zB, zC]
        refine linf_fn 20 39 _ _ _ (write_any T D _ dp (wrN S c b j) (B + j) (placeN c j : Int) v_19 (markedL (pieceL b j)) HQ.out HOK.out HBL.out HBK.out) rfl rfl rfl rfl Try.func39 (by kernel_rfl) (by kernel_rfl) (by go_simp) ?_
        rintro e wf20 ⟨rfl, T2, D2, hq2, hs2, ht2, hd2⟩
        refine ⟨_, rfl, hs2, ?_⟩
        rw [HWE.out]
        rw [HWT.out] at hq2
        have HQ2 := Lib.hid hq2
        have HE2 := HE.trans hs2
        have HT2 := Lib.hid ht2
        have HD2 : Hid (∀ x, D2 x → D x ∨ W.heap.size ≤ x) := Lib.hid fun x hx => (hd2 x hx).imp id fun h => Nat.le_trans HE.size h
        have HT3 : Hid (∀ x, T2 x → T x ∨ W.heap.size ≤ x) := Lib.hid fun x hx => (ht2 x hx).imp id fun h => Nat.le_trans HE.size h
        clear hq2 hs2 ht2 hd2 HQ HE HBK HT2
        obtain ⟨J2, K2⟩ := HNX.out _ T2 D2 _ HE2 HQ2.out HT3.out HD2.out
        simp only [Act.put, zA, zB, zC]
        obtain ⟨c6, f6⟩ := row_cell J2.h6
        refine linf_val 9 (.assign (.tmp 20)) _ (.int .i64 10) rfl rfl rfl rfl rfl (by unfold mkOp; go_simp) ?_
        gi_wp2
        exact HFN.out _ J2 K2
      · skip
        refine lf_rows1 18 (.tmp 17) rfl rfl rfl rfl (bs_piece (HBS.out _ (HST.out _ HE)) j HJN.out) rfl (fun w' kb => Sam.of_below kb) ?_
        intro v_18 wf18 f_18 kk
        have HQn := Lib.hid (dv_stay T D (fun _ => False) _ _ _ _ HQ.out (Sam.of_below kk) (fun _ h => h.elim))
        clear HQ
        have HQ := HQn
        clear HQn
        replace HE := HE.trans (Sam.of_below kk)
        clear kk
        simp only [Act.put, zA, zB, zC]
        refine linf_fn 16 51 _ _ _ (place_any c s j _ HC.out.1 HC.out.2) rfl rfl rfl rfl Try.func51 (by kernel_rfl) (by kernel_rfl) (by go_simp) ?_
        rintro e wf16 ⟨rfl, kk⟩
        refine ⟨_, rfl, Sam.of_below kk, ?_⟩
        have HQn := Lib.hid (dv_stay T D (fun _ => False) _ _ _ _ HQ.out (Sam.of_below kk) (fun _ h => h.elim))
        clear HQ
        have HQ := HQn
        clear HQn
        replace HE := HE.trans (Sam.of_below kk)
        try replace f_18 := f_18.below kk (Nat.le_refl _)
        clear kk
        simp only [Act.put, zA, zB, zC]
        refine linf_fn 19 53 _ _ _ (marked_any _ _ _ f_18 (by simpa using pieceL_len b j)) rfl rfl rfl rfl Try.func53 (by kernel_rfl) (by kernel_rfl) (by go_simp) ?_
        rintro e wf19 ⟨v_19, rfl, o_19, kk⟩
        refine ⟨_, rfl, Sam.of_below kk, ?_⟩
        have HM : Hid (∀ x, T x → x < _) := Lib.hid fun x hx => Nat.lt_of_lt_of_le (HTB.out x hx) HE.size
        have HBK := Lib.hid (BsK.own (M := T) o_19 HM.out)
        have HQn := Lib.hid (dv_stay T D (fun _ => False) _ _ _ _ HQ.out (Sam.of_below kk) (fun _ h => h.elim))
        clear HQ
        have HQ := HQn
        clear HQn
        replace HE := HE.trans (Sam.of_below kk)
        clear kk o_19 HM
        rw [show [pieceL b j].flatten = pieceL b j by simp] at HBK
        simp only [Act.put, zA, zB, zC]
        refine linf_fn 20 39 _ _ _ (write_any T D _ dp (wrN S c b j) (B + j) (placeN c j : Int) v_19 (markedL (pieceL b j)) HQ.out HOK.out HBL.out HBK.out) rfl rfl rfl rfl Try.func39 (by kernel_rfl) (by kernel_rfl) (by go_simp) ?_
        rintro e wf20 ⟨rfl, T2, D2, hq2, hs2, ht2, hd2⟩
        refine ⟨_, rfl, hs2, ?_⟩
        rw [HWE.out]
        rw [HWT.out] at hq2
        have HQ2 := Lib.hid hq2
        have HE2 := HE.trans hs2
        have HT2 := Lib.hid ht2
        have HD2 : Hid (∀ x, D2 x → D x ∨ W.heap.size ≤ x) := Lib.hid fun x hx => (hd2 x hx).imp id fun h => Nat.le_trans HE.size h
        have HT3 : Hid (∀ x, T2 x → T x ∨ W.heap.size ≤ x) := Lib.hid fun x hx => (ht2 x hx).imp id fun h => Nat.le_trans HE.size h
        clear hq2 hs2 ht2 hd2 HQ HE HBK HT2
        obtain ⟨J2, K2⟩ := HNX.out _ T2 D2 _ HE2 HQ2.out HT3.out HD2.out
        simp only [Act.put, zA, zB, zC]
        obtain ⟨c6, f6⟩ := row_cell J2.h6
        refine linf_val 9 (.assign (.tmp 20)) _ (.int .i64 10) rfl rfl rfl rfl rfl (by unfold mkOp; go_simp) ?_
        gi_wp2
        exact HFN.out _ J2 K2
  case done =>
    intro W ⟨⟨_, hall⟩, hok, hJ⟩ hK
    have HALL := Lib.hid hall
    clear hall
    obtain ⟨c6, f6⟩ := row_cell hJ.h6
    gi_wp2
    obtain ⟨g1, g2⟩ := hJ.set6 HNN.out HB12.out 0
    refine ⟨by simp, .inl ⟨_, _, rfl, run_takeDeferred (g2.one.trans hK), ?_⟩⟩
    have g3 := g1.stay HNN.out (sam_put w4.heap.size _ (.deferred none) _ (.inl rfl))
    refine ⟨.int .i64 0, results_cell (b := w.heap.size + 1 + 1) rfl (by kernel_rfl) rfl (row_cell g3.h6).1, ?_⟩
    obtain ⟨T, D, q1, q2, q3, _⟩ := g3.dev
    exact ⟨0, _, rfl, ⟨T, D, q1, g3.sam, q2, q3⟩, .inl ⟨rfl, by rw [HNB.out]; exact HALL.out, by rw [HNB.out]⟩⟩
  case stop =>
    intro W ⟨j, h1, ⟨hall, h2⟩, hJ⟩ hK
    have HALL := Lib.hid hall
    clear hall
    gi_wp2
    refine ⟨by simp, .inl ⟨_, _, rfl, run_takeDeferred hK, ?_⟩⟩
    have g3 := hJ.stay HNN.out (sam_put w4.heap.size _ (.deferred none) _ (.inl rfl))
    refine ⟨.int .i64 10, results_cell (b := w.heap.size + 1 + 1) rfl (by kernel_rfl) rfl (row_cell g3.h6).1, ?_⟩
    obtain ⟨T, D, q1, q2, q3, _⟩ := g3.dev
    exact ⟨10, _, rfl, ⟨T, D, q1, g3.sam, q2, q3⟩, .inr ⟨rfl, j, by rw [HNB.out]; exact h1, HALL.out, h2, rfl⟩⟩
set_option maxHeartbeats 4000000 in
set_option maxRecDepth 20000 in
theorem write_none (T0 D0 : Nat → Prop) (w : World) (dp B c s : Nat) (S : DS) (b : List UInt8) (h : BkAt T0 D0 w dp S) (hs : okD S B) (hB : B ≤ 99000) (hn : b.length = 0) (hl : b.length ≤ roomN S.n) (hn2 : S.n ≤ 256) (hc : c ≤ 2000000) (hb : BsK T0 w (.slice none 0 0) b) : Calls Try.prog 38 #[.agg (arrOf 2 (hdF c s)), .pointer (some ⟨dp, 0, none⟩), .slice none 0 0] w fun e w' => WrOut T0 D0 w dp B c S b e w' := by
  have HH := Lib.hid h
  have HS := Lib.hid hs
  have HBB := Lib.hid hB
  have HNB := Lib.hid hn
  have HRM := Lib.hid hl
  have HN2 := Lib.hid hn2
  have HCC := Lib.hid hc
  have HBS := Lib.hid hb
  have HN5 : Hid (0 ≤ 5120) := Lib.hid (by rw [← hn]; unfold roomN at hl; split at hl <;> omega)
  clear h hs hB hl hn2 hc hb hn
  refine (callsIn_wide (n := 6)).1 ?_
  refine callsIn_of_wp_marks Try.func38 rfl trivial ?_ rfl
  simp only [Try.ntmps38, List.size_toArray, List.length_cons, List.length_nil, Nat.reduceAdd, Nat.reduceSub, Array.replicate_succ, Array.replicate_zero, List.push_toArray, List.append_toArray, List.nil_append, List.cons_append]
  have hro : Fence.wide.round = none := rfl
  gi_wp2_with (first
    | (refine ⟨trivial, ?_⟩
       gi_at_call 52
       refine ((callsIn_wide (n := _)).2 (chunk_any none 0 0 _)).mono ?_
       rintro e w4 ⟨b1, b2, rfl, lb1, lb2, hl1, hl2, hc1, hc2, kk⟩))
  have r3 := (((rowIs_arr w 2 (hdF c s) 71).alloc (.cells #[.pointer (some ⟨dp, 0, none⟩)] 24)).alloc (.cells #[.int .i64 0] 31)).alloc (.cells #[.int .i64 0] 3)
  have r4 := ((rowIs_arr (w.alloc (.cells (arrOf 2 (hdF c s)) 71)) 1 (fun _ => .pointer (some ⟨dp, 0, none⟩)) 24).alloc (.cells #[.int .i64 0] 31)).alloc (.cells #[.int .i64 0] 3)
  have r6 := (rowIs_arr ((w.alloc (.cells (arrOf 2 (hdF c s)) 71)).alloc (.cells #[.pointer (some ⟨dp, 0, none⟩)] 24)) 1 (fun _ => .int .i64 0) 31).alloc (.cells #[.int .i64 0] 3)
  have r7 := rowIs_arr (((w.alloc (.cells (arrOf 2 (hdF c s)) 71)).alloc (.cells #[.pointer (some ⟨dp, 0, none⟩)] 24)).alloc (.cells #[.int .i64 0] 31)) 1 (fun _ => .int .i64 0) 3
  have k4 : Below w.heap.size w w4 := Below.trans ((((Below.refl _ w).alloc (Nat.le_refl _) _).alloc (by simp only [World.size_alloc]; omega) _).alloc (by simp only [World.size_alloc]; omega) _ |>.alloc (by simp only [World.size_alloc]; omega) _) (kk.mono (by simp only [World.size_alloc]; omega))
  obtain ⟨w3, hw3⟩ : ∃ w3, w3 = ((((w.alloc (.cells (arrOf 2 (hdF c s)) 71)).alloc (.cells #[.pointer (some ⟨dp, 0, none⟩)] 24)).alloc (.cells #[.int .i64 0] 31)).alloc (.cells #[.int .i64 0] 3)) := ⟨_, rfl⟩
  have hz3 : w3.heap.size = w.heap.size + 4 := by rw [hw3]; simp
  simp only [World.size_alloc] at r4 r6 r7
  have J0 : WrJ T0 D0 w dp c s (.slice none 0 0) b1 b2 w4.heap.size B S 0 0 w4 := by
    have hlD := dv_lt T0 D0 w dp S HH.out
    have hz : w.heap.size + 4 ≤ b1 ∧ w.heap.size + 4 ≤ b2 := by simp only [World.size_alloc] at lb1 lb2; omega
    refine ⟨⟨T0, D0, dv_stay T0 D0 (fun _ => False) _ _ _ _ HH.out (Sam.of_below k4) (fun _ h => h.elim), fun x h => .inl h, fun x h => .inl h, fun x hx hd => ?_⟩, Sam.of_below k4, zrb r3 kk, zrb r4 kk, zrb r6 kk, zrb r7 kk, hc1, hc2, Nat.le_refl _⟩
    have := hlD x hd
    have := k4.size
    rcases hx with hx | hx | hx | hx | hx <;> omega
  have HNN : Hid (w.heap.size + 4 ≤ w4.heap.size ∧ b1 < w4.heap.size ∧ b2 < w4.heap.size) := Lib.hid ⟨by have := kk.size; simp only [World.size_alloc] at this; omega, hl1, hl2⟩
  have HB12 : Hid (w.heap.size + 4 ≤ b1 ∧ w.heap.size + 4 ≤ b2) := Lib.hid (by simp only [World.size_alloc] at lb1 lb2; omega)
  clear r3 r4 r6 r7 kk k4 hw3 hz3 hc1 hc2 hl1 hl2 lb1 lb2
  refine wpIn_rangeFunc_two (F := Fence.wide) (n := 6) hro (by omega) (gf := 61) (lb := #[.pointer (some ⟨b1, 0, none⟩), .pointer (some ⟨b2, 0, none⟩)]) rfl trivial (enters_of Try.func61 (by kernel_rfl) rfl)
    (chunk1_none (6 - 1) b1 b2 (by omega) (fun _ => undef)) rfl
    (fun j W => (j ≤ pcs 0 ∧ ∀ i, i < j → opOk (wrN S c b i) = true) ∧ okD (wrN S c b j) (B + j) ∧ WrJ T0 D0 w dp c s (.slice none 0 0) b1 b2 w4.heap.size B (wrN S c b j) j 0 W)
    (fun W => ∃ j, j < pcs 0 ∧ ((∀ i, i < j → opOk (wrN S c b i) = true) ∧ opOk (wrN S c b j) = false) ∧ WrJ T0 D0 w dp c s (.slice none 0 0) b1 b2 w4.heap.size B (opD (wrN S c b j)) j 10 W)
    (fun j W W' h k => ⟨h.1, h.2.1, h.2.2.stay HNN.out k⟩) (fun W W' ⟨j, h1, h2, h3⟩ k => ⟨j, h1, h2, h3.stay HNN.out k⟩) (fun j W h => ⟨h.2.2.hb1, h.2.2.hb2, by have := h.2.2.size; have := HNN.out; omega, by have := h.2.2.size; have := HNN.out; omega⟩) ⟨⟨Nat.zero_le _, fun i hi => absurd hi (Nat.not_lt_zero _)⟩, HS.out, J0⟩
    (fun j => { tmps := #[.agg (arrOf 2 (hdF c s)), .pointer (some ⟨dp, 0, none⟩), .slice none 0 0, .pointer (some ⟨w.heap.size, 0, none⟩), .pointer (some ⟨w.heap.size + 1, 0, none⟩), undef, .pointer (some ⟨w.heap.size + 1 + 1, 0, none⟩), .pointer (some ⟨w.heap.size + 1 + 1 + 1, 0, none⟩), undef, undef, .slice none 0 0, .func (.func 61) #[] #[.pointer (some ⟨b1, 0, none⟩), .pointer (some ⟨b2, 0, none⟩)], undef, undef, undef, undef, undef, undef, undef, undef, undef, undef, undef, undef, undef, undef], defers := [] }) ?assign ?body ?done ?stop
  case assign =>
    intro l j W K hK
    gi_wp2
    exact hK
  case body =>
    intro l j W _ hjm hlt
    exact absurd hjm (Nat.not_lt_zero _)
  case done =>
    intro W ⟨⟨_, hall⟩, hok, hJ⟩ hK
    have HALL := Lib.hid hall
    clear hall
    obtain ⟨c6, f6⟩ := row_cell hJ.h6
    gi_wp2
    obtain ⟨g1, g2⟩ := hJ.set6 HNN.out HB12.out 0
    refine ⟨by simp, .inl ⟨_, _, rfl, run_takeDeferred (g2.one.trans hK), ?_⟩⟩
    have g3 := g1.stay HNN.out (sam_put w4.heap.size _ (.deferred none) _ (.inl rfl))
    refine ⟨.int .i64 0, results_cell (b := w.heap.size + 1 + 1) rfl (by kernel_rfl) rfl (row_cell g3.h6).1, ?_⟩
    obtain ⟨T, D, q1, q2, q3, _⟩ := g3.dev
    exact ⟨0, _, rfl, ⟨T, D, q1, g3.sam, q2, q3⟩, .inl ⟨rfl, by rw [HNB.out]; exact HALL.out, by rw [HNB.out]; rfl⟩⟩
  case stop =>
    intro W ⟨j, h1, ⟨hall, h2⟩, hJ⟩ hK
    have HALL := Lib.hid hall
    clear hall
    gi_wp2
    refine ⟨by simp, .inl ⟨_, _, rfl, run_takeDeferred hK, ?_⟩⟩
    have g3 := hJ.stay HNN.out (sam_put w4.heap.size _ (.deferred none) _ (.inl rfl))
    refine ⟨.int .i64 10, results_cell (b := w.heap.size + 1 + 1) rfl (by kernel_rfl) rfl (row_cell g3.h6).1, ?_⟩
    obtain ⟨T, D, q1, q2, q3, _⟩ := g3.dev
    exact ⟨10, _, rfl, ⟨T, D, q1, g3.sam, q2, q3⟩, .inr ⟨rfl, j, by rw [HNB.out]; exact h1, HALL.out, h2, rfl⟩⟩
/-- write, of whatever bytes. -/
theorem writeH_any (T0 D0 : Nat → Prop) (w : World) (dp B c s : Nat) (S : DS) (b : List UInt8) (vb : Value) (h : BkAt T0 D0 w dp S) (hs : okD S B) (hB : B ≤ 99000) (hl : b.length ≤ roomN S.n) (hn2 : S.n ≤ 256) (hc : c ≤ 2000000) (hb : BsK T0 w vb b) : Calls Try.prog 38 #[.agg (arrOf 2 (hdF c s)), .pointer (some ⟨dp, 0, none⟩), vb] w fun e w' => WrOut T0 D0 w dp B c S b e w' := by
  obtain ⟨a, cap, rfl, h1, h2, h3, h4⟩ := hb.bs
  cases a with
  | none =>
    have hc0 := h3 rfl
    have hl0 : b.length = 0 := by omega
    subst hc0
    rw [hl0] at hb ⊢
    exact write_none T0 D0 w dp B c s S b h hs hB hl0 hl hn2 hc hb
  | some ax => exact write_some T0 D0 w dp B c s S b ax b.length cap h hs hB rfl hl hn2 hc h1 hb
end Go.Proofs.Ytefabimolfcllaa

/- What keep leaves of a device, wherever the power goes. -/
namespace Go.Proofs.Ytefabimolfcllaa
open Go.RowKit Go.Deep
set_option linter.unusedSimpArgs false
set_option linter.unusedVariables false

theorem opOk_off {S : DS} (h : opOk S = true) : S.off = false ∧ (opD S).off = false := by
  unfold opOk at h
  cases ho : S.off with
  | true => rw [ho] at h; simp at h
  | false =>
    refine ⟨rfl, ?_⟩
    unfold opD
    rw [if_neg (by rw [ho]; decide)]
    split
    · rename_i hc
      split
      · rename_i hl
        rw [ho, if_neg (by decide), if_pos hc, if_pos hl] at h
        simp at h
      · exact ho
    · exact ho
theorem opD_off {S : DS} (h : opOk S = false) : (opD S).off = true := by
  unfold opOk at h
  unfold opD
  split
  · assumption
  · rename_i ho
    rw [if_neg ho] at h
    split
    · rename_i hc
      rw [if_pos hc] at h
      split
      · rfl
      · rename_i hl; rw [if_neg hl] at h; exact absurd h (by decide)
    · rename_i hc; rw [if_neg hc] at h; exact absurd h (by decide)
theorem opOk_live {S : DS} (ho : S.off = false) (hc : S.cut = false) : opOk S = true := by
  unfold opOk
  rw [ho, hc]
  rfl
/-- Refused, though the power wasn't off: it was cut. -/
theorem opOk_cut {S : DS} (ho : S.off = false) (h : opOk S = false) : S.cut = true := by
  cases hc : S.cut with
  | true => rfl
  | false => rw [opOk_live ho hc] at h; exact absurd h (by decide)
theorem wrN_off {S : DS} {c : Nat} {b : List UInt8} (ho : S.off = false) : ∀ j, (∀ i, i < j → opOk (wrN S c b i) = true) → (wrN S c b j).off = false
  | 0, _ => ho
  | j + 1, h => (opOk_off (h j (Nat.lt_succ_self _))).2
theorem wrS_ok {S : DS} {B k : Nat} {b : List UInt8} (h : okD S B) (hk : k < S.n) (hl : b.length = 64) : okD (wrS S k b) (B + 1) := by
  have g := h.op
  refine ⟨g.ops, g.n1, g.n, g.left, g.good, fun j hj l hl2 => ?_, fun j => ?_⟩
  · have hj' : j < S.n := by have := (opD_same S).1; simpa [wrS, this] using hj
    simp only [wrS, updF] at hl2
    split at hl2
    · rename_i e
      rcases List.mem_append.1 hl2 with hl2 | hl2
      · exact h.pend _ hk l hl2
      · rw [List.mem_singleton.1 hl2]; exact hl
    · exact h.pend j hj' l hl2
  · simp only [wrS, updF]
    split
    · rw [List.length_append]
      have := h.cnt k
      simp
      omega
    · exact Nat.le_succ_of_le (h.cnt j)
theorem wrN_okD {S : DS} {B c : Nat} {b : List UInt8} (h : okD S B) (hn : S.n ≤ 256) (hl : b.length ≤ roomN S.n) : ∀ j, j ≤ pcs b.length → okD (wrN S c b j) (B + j)
  | 0, _ => h
  | j + 1, hj => wrS_ok (wrN_okD h hn hl j (by omega)) (by rw [wrN_n]; exact (room_pcs hn hl (by omega) c).1) (wrN_len c b j)
theorem WrOk.op {S T : DS} {c j : Nat} {b : List UInt8} (h : WrOk S T c b j) : WrOk S (opD T) c b j := by
  obtain ⟨e1, e2, e3, e4⟩ := opD_same T
  refine ⟨by rw [e1]; exact h.n, by rw [e2]; exact h.good, by rw [opD_cut]; exact h.cut, fun k => ?_, fun i hi => by rw [e3]; exact h.at_ i hi⟩
  have hn : nowS (opD T) k = nowS T k := by unfold nowS atS; rw [e2, e3]
  rw [e3, hn]
  exact h.pend k
theorem crI_op (S : DS) (L : Nat) (pk : Nat → Int) : crI (opD S) L pk (opD S).n = crI S L pk S.n := by
  unfold opD
  split
  · rfl
  · split
    · split <;> rfl
    · rfl
theorem CrashOk.op {S : DS} {K : List Ct} (h : CrashOk S K) : CrashOk (opD S) K := fun L pk => by
  rw [crI_op, (opD_same S).1]
  exact h L pk
/-- What keep answers and leaves: b is kept, or the power went off. -/
structure KeepFin (S : DS) (B : Nat) (b : List UInt8) (x : Ct) (r : Int) (S' : DS) : Prop where
  ok : okD S' (B + 1000)
  n : S'.n = S.n
  cut : S'.cut = S.cut
  ways : (r = 0 ∧ (∀ k, S'.pend k = []) ∧ S'.off = false ∧ Holds S'.good S'.n (b, x.2 + 1)) ∨ (r = 10 ∧ S.cut = true ∧ S'.off = true ∧ Holds S'.good S'.n x ∧ CrashOk S' [x, (b, x.2 + 1)])
/-- What is asked ahead of keep. -/
structure KeepIn (S : DS) (B : Nat) (b : List UInt8) (x : Ct) : Prop where
  ok : okD S B
  bd : B ≤ 90000
  off : S.off = false
  pend : ∀ k, S.pend k = []
  holds : Holds S.good S.n x
  room : b.length ≤ roomN S.n
  cnt : x.2 ≤ 90000
theorem KeepIn.pcs {S : DS} {B : Nat} {b : List UInt8} {x : Ct} (h : KeepIn S B b x) : pcs b.length ≤ 100 := by
  have h1 := h.room
  have h2 := h.holds.n2
  unfold roomN at h1
  unfold Go.Proofs.Ytefabimolfcllaa.pcs
  split at h1 <;> omega
theorem keep_wr {S : DS} {B j : Nat} {b : List UInt8} {x : Ct} (H : KeepIn S B b x) (hj : j ≤ pcs b.length) (hall : ∀ i, i < j → opOk (wrN S (x.2 + 1) b i) = true) (ho : opOk (wrN S (x.2 + 1) b j) = false) : KeepFin S B b x 10 (opD (wrN S (x.2 + 1) b j)) := by
  have hw := wrN_ok S (x.2 + 1) b H.pend j
  have hw2 := hw.op
  have hp := H.pcs
  refine ⟨(wrN_okD H.ok H.holds.n2 H.room j hj).op.more (by omega), by rw [hw2.n], by rw [hw2.cut], .inr ⟨rfl, ?_, opD_off ho, by rw [hw2.good, hw2.n]; exact H.holds, fun L pk => ⟨x, by simp, crash_wr rfl H.holds hw2 H.ok.good hj H.room L pk⟩⟩⟩
  rw [← hw.cut]
  exact opOk_cut (wrN_off H.off j hall) ho
structure Keep2 (S : DS) (B : Nat) (b : List UInt8) (x : Ct) (S2 : DS) : Prop where
  ok : okD S2 (B + 200)
  n : S2.n = S.n
  cut : S2.cut = S.cut
  off : S2.off = false
  pend : ∀ k, S2.pend k = []
  holds : Holds S2.good S2.n x
  at_ : ∀ i, i < pcs b.length → S2.good (placeN (x.2 + 1) i) = markedL (pieceL b i)
theorem flT_yes {S : DS} (h : opOk S = true) : flE S = 0 ∧ flT S = flI (opD S) S.n := by
  unfold flE flT
  rw [if_pos h, if_pos h]
  exact ⟨rfl, rfl⟩
theorem flT_no {S : DS} (h : opOk S = false) : flE S = 10 ∧ flT S = opD S := by
  unfold flE flT
  rw [if_neg (by rw [h]; decide), if_neg (by rw [h]; decide)]
  exact ⟨rfl, rfl⟩
theorem flI_pend2 {S : DS} (hp : ∀ k, S.n ≤ k → S.pend k = []) : ∀ k, (flI (opD S) S.n).pend k = [] := fun k => by
  show (if k < S.n then [] else (opD S).pend k) = []
  split
  · rfl
  · rw [(opD_same S).2.2.1]; exact hp k (by omega)
theorem flI_good2 {S : DS} (k : Nat) (hk : k < S.n) : (flI (opD S) S.n).good k = nowS S k := by
  show (if k < S.n then nowS (opD S) k else (opD S).good k) = _
  rw [if_pos hk]
  obtain ⟨e1, e2, e3, e4⟩ := opD_same S
  unfold nowS atS
  rw [e2, e3]
theorem keep_two {S : DS} {B : Nat} {b : List UInt8} {x : Ct} (H : KeepIn S B b x) (hall : ∀ i, i < pcs b.length → opOk (wrN S (x.2 + 1) b i) = true) (ho : opOk (wrN S (x.2 + 1) b (pcs b.length)) = true) : Keep2 S B b x (flT (wrN S (x.2 + 1) b (pcs b.length))) := by
  have hw := wrN_ok S (x.2 + 1) b H.pend (pcs b.length)
  have hp := H.pcs
  have hk := flT_ok (wrN_okD (c := x.2 + 1) H.ok H.holds.n2 H.room _ (Nat.le_refl _))
  have hg := (flT_yes ho).2
  have hfl := flush_wr rfl H.holds hw H.room (flT (wrN S (x.2 + 1) b (pcs b.length))).good (fun k hk => by rw [hg]; exact flI_good2 k (by rw [hw.n]; exact hk))
  have hn : (flT (wrN S (x.2 + 1) b (pcs b.length))).n = S.n := by rw [hg]; show (opD _).n = _; rw [(opD_same _).1, hw.n]
  refine ⟨hk.more (by omega), hn, ?_, ?_, ?_, by rw [hn]; exact hfl.1, hfl.2⟩
  · rw [hg]; show (opD _).cut = _; rw [opD_cut, hw.cut]
  · rw [hg]; exact (opOk_off ho).2
  · rw [hg]
    refine flI_pend2 fun k hk => ?_
    rw [hw.pend, if_neg]
    rintro ⟨i, hi, rfl⟩
    have := (room_pcs H.holds.n2 H.room hi (x.2 + 1)).1
    rw [hw.n] at hk
    omega
theorem keep_head_off {S S2 : DS} {B : Nat} {b : List UInt8} {x : Ct} (H : KeepIn S B b x) (K : Keep2 S B b x S2) (ho : opOk S2 = false) : KeepFin S B b x 10 (opD S2) := by
  obtain ⟨e1, e2, e3, e4⟩ := opD_same S2
  refine ⟨K.ok.op.more (by omega), by rw [e1]; exact K.n, by rw [opD_cut]; exact K.cut, .inr ⟨rfl, by rw [← K.cut]; exact opOk_cut K.off ho, opD_off ho, by rw [e1, e2]; exact K.holds, fun L pk => ⟨x, by simp, ?_⟩⟩⟩
  rw [crI_op, e1]
  exact crash_calm (fun k _ => K.pend k) K.holds L pk
/-- The head written. -/
structure Keep3 (S S2 : DS) (B : Nat) (b : List UInt8) (x : Ct) (S3 : DS) : Prop where
  ok : okD S3 (B + 201)
  n : S3.n = S2.n
  good : S3.good = S2.good
  cut : S3.cut = S.cut
  off : S3.off = false
  pend : ∀ k, k ≠ 0 → S3.pend k = []
  p0 : S3.pend 0 = [headL (x.2 + 1) b.length]
theorem keep_three {S S2 : DS} {B : Nat} {b : List UInt8} {x : Ct} (H : KeepIn S B b x) (K : Keep2 S B b x S2) (ho : opOk S2 = true) : Keep3 S S2 B b x (wrS S2 0 (headL (x.2 + 1) b.length)) := by
  obtain ⟨e1, e2, e3, e4⟩ := opD_same S2
  have h1 := K.holds.n1
  refine ⟨wrS_ok K.ok (by omega) (headL_len _ _), e1, e2, (opD_cut S2).trans K.cut, (opOk_off ho).2, fun k hk => ?_, ?_⟩
  · show updF S2.pend 0 _ k = []
    unfold updF
    rw [if_neg hk]
    exact K.pend k
  · show updF S2.pend 0 (S2.pend 0 ++ [headL (x.2 + 1) b.length]) 0 = _
    unfold updF
    rw [if_pos rfl, K.pend]
    rfl
theorem keep_last_off {S S2 S3 : DS} {B : Nat} {b : List UInt8} {x : Ct} (H : KeepIn S B b x) (K : Keep2 S B b x S2) (L : Keep3 S S2 B b x S3) (ho : opOk S3 = false) : KeepFin S B b x 10 (opD S3) := by
  obtain ⟨e1, e2, e3, e4⟩ := opD_same S3
  have hn : S3.n = S.n := L.n.trans K.n
  refine ⟨L.ok.op.more (by omega), by rw [e1, hn], by rw [opD_cut]; exact L.cut, .inr ⟨rfl, by rw [← L.cut]; exact opOk_cut L.off ho, opD_off ho, by rw [e1, e2, L.good, L.n]; exact K.holds, ?_⟩⟩
  refine CrashOk.op (crash_head (g := S2.good) rfl (by have := H.cnt; omega) (by rw [L.n]; exact K.holds) (by rw [hn]; exact H.room) K.at_ (fun k _ => by rw [L.good]) L.pend L.p0)
theorem keep_last_yes {S S2 S3 : DS} {B : Nat} {b : List UInt8} {x : Ct} (H : KeepIn S B b x) (K : Keep2 S B b x S2) (L : Keep3 S S2 B b x S3) (ho : opOk S3 = true) : KeepFin S B b x 0 (flT S3) := by
  have hg := (flT_yes ho).2
  have hn : S3.n = S.n := L.n.trans K.n
  have h1 := H.holds.n1
  have hfn : (flT S3).n = S3.n := by rw [hg]; exact (opD_same S3).1
  refine ⟨(flT_ok L.ok).more (by omega), by rw [hfn, hn], ?_, .inl ⟨rfl, ?_, by rw [hg]; exact (opOk_off ho).2, ?_⟩⟩
  · rw [hg]; exact (opD_cut S3).trans L.cut
  · rw [hg]; exact flI_pend2 fun k hk => L.pend k (by rw [hn] at hk; omega)
  · have hgk : ∀ k, k < S3.n → (flT S3).good k = nowS S3 k := fun k hk => by rw [hg]; exact flI_good2 k hk
    rw [hfn]
    refine Holds.next (g := S2.good) (x := x) (by rw [L.n]; exact K.holds) rfl (by have := H.cnt; omega) (by rw [hn]; exact H.room) K.at_ ?_ fun k hk hk0 => ?_
    · rw [hgk 0 (by rw [hn]; omega)]; exact nowS_one _ _ _ L.p0
    · rw [hgk k hk, nowS_pend _ _ (L.pend k hk0), L.good]
/-- A device at dp, as a call that began at w has it by now. -/
structure KAt (T D : Nat → Prop) (w : World) (T1 D1 : Nat → Prop) (dp : Nat) (S : DS) (w' : World) : Prop where
  dev : BkAt T1 D1 w' dp S
  sam : Sam T w w'
  t : ∀ x, T1 x → T x ∨ w.heap.size ≤ x
  d : ∀ x, D1 x → D x ∨ w.heap.size ≤ x
theorem KAt.start {T D : Nat → Prop} {w : World} {dp : Nat} {S : DS} (h : BkAt T D w dp S) : KAt T D w T D dp S w := ⟨h, Sam.refl _ _, fun _ h => .inl h, fun _ h => .inl h⟩
theorem KAt.bel {T D : Nat → Prop} {w : World} {T1 D1 : Nat → Prop} {dp : Nat} {S : DS} {w1 w2 : World} (h : KAt T D w T1 D1 dp S w1) (k : Below w1.heap.size w1 w2) : KAt T D w T1 D1 dp S w2 :=
  ⟨dv_stay T1 D1 (fun _ => False) _ _ _ _ h.dev (Sam.of_below k) (fun _ h => h.elim), h.sam.trans (Sam.of_below k), h.t, h.d⟩
theorem KAt.new {T D : Nat → Prop} {w : World} {T1 D1 : Nat → Prop} {dp : Nat} {S S2 : DS} {w1 w2 : World} (h : KAt T D w T1 D1 dp S w1) (k : BkNew BkAt T1 D1 w1 dp S2 w2) :
    ∃ T2 D2, KAt T D w T2 D2 dp S2 w2 ∧ Sam T1 w1 w2 ∧ (∀ x, T2 x → T1 x ∨ w1.heap.size ≤ x) ∧ ∀ x, D2 x → D1 x ∨ w1.heap.size ≤ x := by
  obtain ⟨T2, D2, q1, q2, q3, q4⟩ := k
  have hz := h.sam.size
  refine ⟨T2, D2, ⟨q1, ⟨q2.os.trans h.sam.os, q2.tape.trans h.sam.tape, q2.output.trans h.sam.output, Nat.le_trans hz q2.size, fun x hx hn => (q2.block x (by omega) fun ht => (h.t x ht).elim hn fun h => by omega).trans (h.sam.block x hx hn)⟩, fun x hx => (q3 x hx).elim (h.t x) fun h => .inr (Nat.le_trans hz h), fun x hx => (q4 x hx).elim (h.d x) fun h => .inr (Nat.le_trans hz h)⟩, q2, q3, q4⟩
theorem KAt.bk {T D : Nat → Prop} {w : World} {T1 D1 : Nat → Prop} {dp : Nat} {S : DS} {w1 : World} (h : KAt T D w T1 D1 dp S w1) : BkNew BkAt T D w dp S w1 := ⟨T1, D1, h.dev, h.sam, h.t, h.d⟩
theorem KAt.bs {T D : Nat → Prop} {w : World} {T1 D1 : Nat → Prop} {dp : Nat} {S : DS} {w1 : World} (h : KAt T D w T1 D1 dp S w1) {v : Value} {l : List UInt8} (hb : BsK T w v l) : BsK T1 w1 v l := hb.wide h.sam h.t
theorem KAt.tlt {T D : Nat → Prop} {w : World} {T1 D1 : Nat → Prop} {dp : Nat} {S : DS} {w1 : World} (h : KAt T D w T1 D1 dp S w1) : ∀ x, T1 x → x < w1.heap.size := fun x hx => dv_lt T1 D1 _ _ _ h.dev x (dv_sub T1 D1 _ _ _ h.dev x hx)
end Go.Proofs.Ytefabimolfcllaa

/- The program's store: keep. -/
namespace Go.Proofs.Ytefabimolfcllaa
open Go.RowKit Go.Deep
set_option linter.unusedSimpArgs false
set_option linter.unusedVariables false

theorem KAt.step {T D : Nat → Prop} {w : World} {T1 D1 : Nat → Prop} {dp : Nat} {S : DS} {F : Nat → Prop} {w1 w2 : World} (h : KAt T D w T1 D1 dp S w1) (k : Sam F w1 w2) (hF : ∀ x, F x → ¬ D1 x ∧ w.heap.size ≤ x) : KAt T D w T1 D1 dp S w2 := by
  have hz := h.sam.size
  exact ⟨dv_stay T1 D1 F _ _ _ _ h.dev k (fun x hx => (hF x hx).1), ⟨k.os.trans h.sam.os, k.tape.trans h.sam.tape, k.output.trans h.sam.output, Nat.le_trans hz k.size, fun x hx hn => (k.block x (by omega) fun hf => by have := (hF x hf).2; omega).trans (h.sam.block x hx hn)⟩, h.t, h.d⟩
/-- A row of one's own stays through what a call on the device turns. -/
structure KRow (w : World) (D1 : Nat → Prop) (x : Nat) (t : TypeId) (n : Nat) (f : Nat → Value) (w' : World) : Prop where
  row : w'.rowIs x t n f
  ge : w.heap.size ≤ x
  no : ¬ D1 x
theorem KRow.start {w : World} {T D T1 D1 : Nat → Prop} {dp : Nat} {S : DS} {w1 w2 : World} {x : Nat} {t : TypeId} {n : Nat} {f : Nat → Value} (h : KAt T D w T1 D1 dp S w1) (lx : w1.heap.size ≤ x) (hr : w2.rowIs x t n f) : KRow w D1 x t n f w2 :=
  ⟨hr, Nat.le_trans h.sam.size lx, fun hd => by have := dv_lt T1 D1 _ _ _ h.dev x hd; omega⟩
theorem KRow.bel {w : World} {D1 : Nat → Prop} {x : Nat} {t : TypeId} {n : Nat} {f : Nat → Value} {w1 w2 : World} (h : KRow w D1 x t n f w1) (k : Below w1.heap.size w1 w2) : KRow w D1 x t n f w2 := ⟨zrb h.row k, h.ge, h.no⟩
theorem KRow.new {w : World} {T D T1 D1 D2 : Nat → Prop} {dp : Nat} {S : DS} {w1 w2 : World} {x : Nat} {t : TypeId} {n : Nat} {f : Nat → Value} (h : KRow w D1 x t n f w1) (ka : KAt T D w T1 D1 dp S w1) (k : Sam T1 w1 w2) (hd : ∀ x, D2 x → D1 x ∨ w1.heap.size ≤ x) : KRow w D2 x t n f w2 :=
  ⟨Sam.row h.row k fun ht => h.no (dv_sub T1 D1 _ _ _ ka.dev x ht), h.ge, fun h2 => (hd x h2).elim h.no fun h3 => by have := h.row.lt; omega⟩
theorem KRow.set {w : World} {D1 : Nat → Prop} {x : Nat} {t : TypeId} {n : Nat} {f g : Nat → Value} {w1 w2 : World} (h : KRow w D1 x t n f w1) (hr : w2.rowIs x t n g) : KRow w D1 x t n g w2 := ⟨hr, h.ge, h.no⟩
theorem wrE0_yes {R : DS} {l : List UInt8} (h1 : 1 ≤ R.n) (hl : l.length = 64) (ho : opOk R = true) : wrE R 0 l = 0 ∧ wrT R 0 l = wrS R 0 l := wrE_yes (k := 0) (by omega) hl ho
theorem wrE0_off {R : DS} {l : List UInt8} (h1 : 1 ≤ R.n) (hl : l.length = 64) (ho : opOk R = false) : wrE R 0 l = 10 ∧ wrT R 0 l = opD R := wrE_off (k := 0) (by omega) hl ho
theorem Holds.congr2 {S Sy : DS} {x : Ct} (H : Holds S.good S.n x) (hn : Sy.n = S.n) (hg : ∀ k, k < S.n → nowS Sy k = S.good k) : Holds (nowS Sy) Sy.n x := by
  rw [hn]; exact H.congr hg
set_option maxHeartbeats 4000000 in
set_option maxRecDepth 20000 in
theorem keep_any (T D : Nat → Prop) (w : World) (dp B : Nat) (S : DS) (b : List UInt8) (vb : Value) (x : Ct) (h : BkAt T D w dp S) (H : KeepIn S B b x) (hb : BsK T w vb b) : Calls Try.prog 25 #[.pointer (some ⟨dp, 0, none⟩), vb] w fun e w' => ∃ r S', e = .returned (.int .i64 r) ∧ BkNew BkAt T D w dp S' w' ∧ KeepFin S B b x r S' := by
  obtain ⟨ad, N, cap, rfl, hN, y1, y2, hB0⟩ := hb.bs.shape
  have HB := Lib.hid hb
  have HNB := Lib.hid hN
  obtain ⟨c, hcx⟩ : ∃ c, c = x.2 + 1 := ⟨_, rfl⟩
  have HCX := Lib.hid hcx
  have HK := Lib.hid (KAt.start h)
  have HI := Lib.hid H
  have HSF := Lib.hid trivial
  have HWR := Lib.hid trivial
  have hwc : IntKind.i64.wrap ((x.2 : Int) + 1) = (c : Int) := by rw [IntWalk.i64_in _ (by have := H.cnt; omega)]; omega
  clear h H hb hcx y1 y2 hB0 hN
  go_enter Try.func25, Try.ntmps25
  go_wp2_with (first
    | (have hgo := HSF; clear hgo
       go_at_call 35
       refine (safe_any _ _ _ dp B S HK.out.dev HI.out.ok (by have := HI.out.bd; omega) (fun _ => HI.out.pend)).mono ?_
       rintro e w1 ⟨y, Ty, Dy, Sy, rfl, hy, hoy, hny, hgy, kk⟩
       have HY := Lib.hid hy
       have HOY := Lib.hid hoy
       have HHY := Lib.hid (HI.out.holds.congr2 hny hgy)
       have HKn := Lib.hid (HK.out.bel kk)
       clear HK
       have HK := HKn
       clear HKn
       clear kk hy hoy hny hgy HSF)
    | (have hgo := HHY; clear hgo
       go_at_call 36
       refine (headOf_any Ty Dy _ y B Sy x HY.out HOY.out (by have := HI.out.bd; omega) HHY.out).mono ?_
       rintro e w2 ⟨rfl, kk⟩
       have HKn := Lib.hid (HK.out.bel kk)
       clear HK
       have HK := HKn
       clear HKn
       clear kk HY HOY HHY)
    | (refine wpList_alloc_row rfl 71 rfl 2 (hdF 0 0) zeroHead ?_
       first | (have hgo := HX5; clear hgo; intro x7 w4 lx r_x kk; have HX7 := Lib.hid (KRow.start HK.out lx r_x); have HX5n := Lib.hid (HX5.out.bel kk); clear HX5; have HX5 := HX5n; clear HX5n r_x lx) | (intro x5 w3 lx r_x kk; have HX5 := Lib.hid (KRow.start HK.out lx r_x); clear r_x lx)
       have HKn := Lib.hid (HK.out.bel kk)
       clear HK
       have HK := HKn
       clear HKn
       clear kk)
    | (have hgo := HX7; clear hgo
       refine wpList_store_as rfl 71 (.tmp 7) (.tmp 22) rfl 2 (hdF c N) isHead HX7.out.row rfl rfl (by omega) (fun j _ => by unfold hdF; split <;> rfl) (fun i hi => putN_whole hi) ?_
       intro w5 q gk
       have HX7n := Lib.hid (HX7.out.set q)
       have HKn := Lib.hid (HK.out.step (Sam.of_grown (F := fun z => z = x7) gk fun z hz => (Option.some.inj hz).symm) (fun z hz => by rw [hz]; exact ⟨HX7.out.no, HX7.out.ge⟩))
       clear HK
       have HK := HKn
       clear HKn
       clear HX7 HX5 gk q
       have HX := HX7n
       clear HX7n)
    | (have hgo := HX5; clear hgo
       refine wpList_store_as rfl 71 (.tmp 5) (.tmp 15) rfl 2 (hdF x.2 x.1.length) isHead HX5.out.row rfl rfl (by omega) (fun j _ => by unfold hdF; split <;> rfl) (fun i hi => putN_whole hi) ?_
       intro w3b q gk
       have HX5n := Lib.hid (HX5.out.set q)
       have HKn := Lib.hid (HK.out.step (Sam.of_grown (F := fun z => z = x5) gk fun z hz => (Option.some.inj hz).symm) (fun z hz => by rw [hz]; exact ⟨HX5.out.no, HX5.out.ge⟩))
       clear HK
       have HK := HKn
       clear HKn
       clear HX5 gk q
       have HX5 := HX5n
       clear HX5n)
    | (have hgo := HX5; clear hgo
       refine wpList_loadG 3 (.tmp 17) rfl rfl (.int .i64 (x.2 : Int)) HX5.out.row rfl (by omega) rfl (by kernel_rfl) ?_)
    | (refine wpList_build_arr rfl 71 #[(0, .tmp 19), (1, .tmp 21)] rfl (arrOf 2 (hdF c N)) ?_ ?_
       · simp only [List.map_toArray, List.map_cons, List.map_nil]; exact builtHead c N)
    | (have hgo := HX; clear hgo
       refine wpList_load_as rfl 71 (.tmp 7) rfl 2 (hdF c N) isHead HX.out.row rfl (by omega) (fun i _ => by rw [Nat.zero_add]) ?_)
    | (have hgo := HWR; clear hgo
       go_at_call 38
       refine (writeH_any _ _ _ dp B c N S b _ HK.out.dev HI.out.ok (by have := HI.out.bd; omega) HI.out.room HI.out.holds.n2 (by have := HI.out.cnt; have := HCX.out; omega) (HK.out.bs HB.out)).mono ?_
       rintro e w6 ⟨r, S1, rfl, hn, (⟨rfl, hall, rfl⟩ | ⟨rfl, j, hj, hall, hoj, rfl⟩)⟩
       all_goals (obtain ⟨T6, D6, hkn, sk, tk, dk⟩ := HK.out.new hn; have HXn := Lib.hid (HX.out.new HK.out sk dk); clear HX; have HX := HXn; clear HXn; clear HK; have HK := Lib.hid hkn; clear hn hkn sk tk dk; clear HWR)
       all_goals (first | (have HF : Hid (KeepFin S B b x 10 (opD (wrN S c b j))) := Lib.hid (by rw [HCX.out] at hall hoj ⊢; exact keep_wr HI.out (Nat.le_of_lt hj) hall hoj); clear hall hoj hj) | (have HALL := Lib.hid hall; clear hall)))
    | (have hgo := HALL; clear hgo
       go_at_call 27
       refine (dv_flush _ _ _ dp _ (B + pcs b.length) HK.out.dev (wrN_okD HI.out.ok HI.out.holds.n2 HI.out.room _ (Nat.le_refl _)) (by have := HI.out.bd; have := HI.out.pcs; omega)).mono ?_
       rintro e w7 ⟨rfl, hn⟩
       cases ho : opOk (wrN S c b (pcs b.length))
       all_goals (first | (rw [(flT_no ho).1]; rw [(flT_no ho).2] at hn; have HF : Hid (KeepFin S B b x 10 (opD (wrN S c b (pcs b.length)))) := Lib.hid (by have hall := HALL.out; rw [HCX.out] at hall ho ⊢; exact keep_wr HI.out (Nat.le_refl _) hall ho); obtain ⟨T7, D7, hkn, sk, tk, dk⟩ := HK.out.new hn; have HXn := Lib.hid (HX.out.new HK.out sk dk); clear HX; have HX := HXn; clear HXn; clear HK; have HK := Lib.hid hkn; clear hn hkn sk tk dk; clear HALL ho) | (rw [(flT_yes ho).1]; have HS2 : Hid (Keep2 S B b x (flT (wrN S c b (pcs b.length)))) := Lib.hid (by have hall := HALL.out; rw [HCX.out] at hall ho ⊢; exact keep_two HI.out hall ho); obtain ⟨T7, D7, hkn, sk, tk, dk⟩ := HK.out.new hn; have HXn := Lib.hid (HX.out.new HK.out sk dk); clear HX; have HX := HXn; clear HXn; clear HK; have HK := Lib.hid hkn; clear hn hkn sk tk dk; clear HALL ho; obtain ⟨S2, hS2⟩ : ∃ S2, S2 = flT (wrN S c b (pcs b.length)) := ⟨_, rfl⟩; rw [← hS2] at HK HS2; clear hS2)))
    | (have hgo := HS2; clear hgo
       go_at_call 40
       refine (block_any c N _ (by have := HI.out.cnt; have := HCX.out; omega) (by have := HI.out.pcs; have := HNB.out; unfold pcs at *; omega)).mono ?_
       rintro e w8 ⟨v_k, rfl, o_k, kk⟩
       have HBK : Hid (BsK T7 w8 v_k (headL c N)) := Lib.hid (BsK.own o_k HK.out.tlt)
       have HKn := Lib.hid (HK.out.bel kk)
       clear HK
       have HK := HKn
       clear HKn
       clear kk o_k
       have HXn := Lib.hid (HX.out)
       clear HXn)
    | (have hgo := HBK; clear hgo
       go_at_call 39
       refine (write_any _ _ _ dp S2 (B + 200) 0 _ (headL c N) HK.out.dev HS2.out.ok (by have := HI.out.bd; omega) HBK.out).mono ?_
       rintro e w9 ⟨rfl, hn⟩
       cases ho : opOk S2
       all_goals (first | (obtain ⟨e1, e2⟩ := wrE0_off (l := headL c N) HS2.out.ok.n1 (headL_len _ _) ho; rw [e1]; rw [e2] at hn; have HF : Hid (KeepFin S B b x 10 _) := Lib.hid (keep_head_off HI.out HS2.out ho); obtain ⟨T9, D9, hkn, sk, tk, dk⟩ := HK.out.new hn; clear HK; have HK := Lib.hid hkn; clear hn hkn sk tk dk; clear HBK ho e1 e2 HS2) | (obtain ⟨e1, e2⟩ := wrE0_yes (l := headL c N) HS2.out.ok.n1 (headL_len _ _) ho; rw [e1]; rw [e2] at hn; have HS3 : Hid (Keep3 S S2 B b x (wrS S2 0 (headL c N))) := Lib.hid (by rw [HCX.out, ← HNB.out]; exact keep_three HI.out HS2.out ho); obtain ⟨T9, D9, hkn, sk, tk, dk⟩ := HK.out.new hn; clear HK; have HK := Lib.hid hkn; clear hn hkn sk tk dk; clear HBK ho e1 e2; have HS2b := HS2; clear HS2; obtain ⟨S3, hS3⟩ : ∃ S3, S3 = wrS S2 0 (headL c N) := ⟨_, rfl⟩; rw [← hS3] at HK HS3; clear hS3)))
    | (have hgo := HS3; clear hgo
       go_at_call 27
       refine (dv_flush _ _ _ dp _ (B + 201) HK.out.dev HS3.out.ok (by have := HI.out.bd; omega)).mono ?_
       rintro e w10 ⟨rfl, hn⟩
       cases ho : opOk S3
       all_goals (first | (rw [(flT_no ho).1]; rw [(flT_no ho).2] at hn; have HF : Hid (KeepFin S B b x 10 _) := Lib.hid (keep_last_off HI.out HS2b.out HS3.out ho); obtain ⟨T10, D10, hkn, sk, tk, dk⟩ := HK.out.new hn; clear HK; have HK := Lib.hid hkn; clear hn hkn sk tk dk; clear ho HS3 HS2b) | (rw [(flT_yes ho).1]; have HF : Hid (KeepFin S B b x 0 _) := Lib.hid (keep_last_yes HI.out HS2b.out HS3.out ho); obtain ⟨T10, D10, hkn, sk, tk, dk⟩ := HK.out.new hn; clear HK; have HK := Lib.hid hkn; clear hn hkn sk tk dk; clear ho HS3 HS2b))))
  all_goals (go_ret; exact ⟨_, _, rfl, HK.out.bk, HF.out⟩)
end Go.Proofs.Ytefabimolfcllaa

/- The program's store: Save, Load, Count, Dead, Open. -/
namespace Go.Proofs.Ytefabimolfcllaa
open Go.RowKit Go.Deep
set_option linter.unusedSimpArgs false
set_option linter.unusedVariables false

theorem opOk_offF {S : DS} (h : S.off = true) : opOk S = false := by unfold opOk; rw [if_pos h]
set_option maxHeartbeats 4000000 in
set_option maxRecDepth 20000 in
theorem keep_off (T D : Nat → Prop) (w : World) (dp B : Nat) (S : DS) (b : List UInt8) (vb : Value) (x : Ct) (h : BkAt T D w dp S) (hok : okD S B) (hbd : B ≤ 90000) (hof : S.off = true) (H : Holds S.good S.n x) (hrm : b.length ≤ roomN S.n) (hb : BsK T w vb b) : Calls Try.prog 25 #[.pointer (some ⟨dp, 0, none⟩), vb] w fun e w' => e = .returned (.int .i64 10) ∧ BkNew BkAt T D w dp (opD S) w' := by
  obtain ⟨ad, N, cap, rfl, hN, y1, y2, hB0⟩ := hb.bs.shape
  have HB := Lib.hid hb
  have HNB := Lib.hid hN
  obtain ⟨c, hcx⟩ : ∃ c, c = x.2 + 1 := ⟨_, rfl⟩
  have HCX := Lib.hid hcx
  have HK := Lib.hid (KAt.start h)
  have HOK := Lib.hid hok
  have HBD := Lib.hid hbd
  have HOF := Lib.hid hof
  have HNO := Lib.hid (opOk_offF hof)
  have HH := Lib.hid H
  have HRM := Lib.hid hrm
  have HSF := Lib.hid trivial
  have HWR := Lib.hid trivial
  have hwc : IntKind.i64.wrap ((x.2 : Int) + 1) = (c : Int) := by rw [IntWalk.i64_in _ (by have := H.cnt; omega)]; omega
  clear h H hb hcx y1 y2 hB0 hN hok hbd hof hrm
  go_enter Try.func25, Try.ntmps25
  go_wp2_with (first
    | (have hgo := HSF; clear hgo
       go_at_call 35
       refine (safe_any _ _ _ dp B S HK.out.dev HOK.out (by have := HBD.out; omega) (fun hq => by rw [HOF.out] at hq; cases hq)).mono ?_
       rintro e w1 ⟨y, Ty, Dy, Sy, rfl, hy, hoy, hny, hgy, kk⟩
       have HY := Lib.hid hy
       have HOY := Lib.hid hoy
       have HHY := Lib.hid (HH.out.congr2 hny hgy)
       have HKn := Lib.hid (HK.out.bel kk)
       clear HK
       have HK := HKn
       clear HKn
       clear kk hy hoy hny hgy HSF)
    | (have hgo := HHY; clear hgo
       go_at_call 36
       refine (headOf_any Ty Dy _ y B Sy x HY.out HOY.out (by have := HBD.out; omega) HHY.out).mono ?_
       rintro e w2 ⟨rfl, kk⟩
       have HKn := Lib.hid (HK.out.bel kk)
       clear HK
       have HK := HKn
       clear HKn
       clear kk HY HOY HHY)
    | (refine wpList_alloc_row rfl 71 rfl 2 (hdF 0 0) zeroHead ?_
       first | (have hgo := HX5; clear hgo; intro x7 w4 lx r_x kk; have HX7 := Lib.hid (KRow.start HK.out lx r_x); have HX5n := Lib.hid (HX5.out.bel kk); clear HX5; have HX5 := HX5n; clear HX5n r_x lx) | (intro x5 w3 lx r_x kk; have HX5 := Lib.hid (KRow.start HK.out lx r_x); clear r_x lx)
       have HKn := Lib.hid (HK.out.bel kk)
       clear HK
       have HK := HKn
       clear HKn
       clear kk)
    | (have hgo := HX7; clear hgo
       refine wpList_store_as rfl 71 (.tmp 7) (.tmp 22) rfl 2 (hdF c N) isHead HX7.out.row rfl rfl (by omega) (fun j _ => by unfold hdF; split <;> rfl) (fun i hi => putN_whole hi) ?_
       intro w5 q gk
       have HX7n := Lib.hid (HX7.out.set q)
       have HKn := Lib.hid (HK.out.step (Sam.of_grown (F := fun z => z = x7) gk fun z hz => (Option.some.inj hz).symm) (fun z hz => by rw [hz]; exact ⟨HX7.out.no, HX7.out.ge⟩))
       clear HK
       have HK := HKn
       clear HKn
       clear HX7 HX5 gk q
       have HX := HX7n
       clear HX7n)
    | (have hgo := HX5; clear hgo
       refine wpList_store_as rfl 71 (.tmp 5) (.tmp 15) rfl 2 (hdF x.2 x.1.length) isHead HX5.out.row rfl rfl (by omega) (fun j _ => by unfold hdF; split <;> rfl) (fun i hi => putN_whole hi) ?_
       intro w3b q gk
       have HX5n := Lib.hid (HX5.out.set q)
       have HKn := Lib.hid (HK.out.step (Sam.of_grown (F := fun z => z = x5) gk fun z hz => (Option.some.inj hz).symm) (fun z hz => by rw [hz]; exact ⟨HX5.out.no, HX5.out.ge⟩))
       clear HK
       have HK := HKn
       clear HKn
       clear HX5 gk q
       have HX5 := HX5n
       clear HX5n)
    | (have hgo := HX5; clear hgo
       refine wpList_loadG 3 (.tmp 17) rfl rfl (.int .i64 (x.2 : Int)) HX5.out.row rfl (by omega) rfl (by kernel_rfl) ?_)
    | (refine wpList_build_arr rfl 71 #[(0, .tmp 19), (1, .tmp 21)] rfl (arrOf 2 (hdF c N)) ?_ ?_
       · simp only [List.map_toArray, List.map_cons, List.map_nil]; exact builtHead c N)
    | (have hgo := HX; clear hgo
       refine wpList_load_as rfl 71 (.tmp 7) rfl 2 (hdF c N) isHead HX.out.row rfl (by omega) (fun i _ => by rw [Nat.zero_add]) ?_)
    | (have hgo := HWR; clear hgo
       go_at_call 38
       refine (writeH_any _ _ _ dp B c N S b _ HK.out.dev HOK.out (by have := HBD.out; omega) HRM.out HH.out.n2 (by have := HH.out.cnt; have := HCX.out; omega) (HK.out.bs HB.out)).mono ?_
       rintro e w6 ⟨r, S1, rfl, hn, (⟨rfl, hall, rfl⟩ | ⟨rfl, j, hj, hall, hoj, rfl⟩)⟩
       all_goals (obtain ⟨T6, D6, hkn, sk, tk, dk⟩ := HK.out.new hn; have HXn := Lib.hid (HX.out.new HK.out sk dk); clear HX; have HX := HXn; clear HXn; clear HK; have HK := Lib.hid hkn; clear hn hkn sk tk dk; clear HWR)
       all_goals (first | (obtain rfl : j = 0 := (by rcases Nat.eq_zero_or_pos j with hz | hz; exact hz; exact absurd (hall 0 hz) (by rw [show wrN S c b 0 = S from rfl, HNO.out]; decide)); have HF := Lib.hid trivial; clear hall hoj hj) | (have hp0 : pcs b.length = 0 := (by rcases Nat.eq_zero_or_pos (pcs b.length) with hz | hz; exact hz; exact absurd (hall 0 hz) (by rw [show wrN S c b 0 = S from rfl, HNO.out]; decide)); have HALL := Lib.hid trivial; rw [hp0] at HK; clear hall hp0)))
    | (have hgo := HALL; clear hgo
       go_at_call 27
       refine (dv_flush _ _ _ dp S B HK.out.dev HOK.out (by have := HBD.out; omega)).mono ?_
       rintro e w7 ⟨rfl, hn⟩
       rw [(flT_no HNO.out).1]
       rw [(flT_no HNO.out).2] at hn
       obtain ⟨T7, D7, hkn, sk, tk, dk⟩ := HK.out.new hn
       have HXn := Lib.hid (HX.out.new HK.out sk dk)
       clear HX
       have HX := HXn
       clear HXn
       clear HK
       have HK := Lib.hid hkn
       clear hn hkn sk tk dk
       have HF := Lib.hid trivial
       clear HALL))
  all_goals (go_ret; exact ⟨rfl, HK.out.bk⟩)
/-- A store's row that stays through what a call on its device turns. -/
structure SRow (D1 : Nat → Prop) (sp dp : Nat) (dead : Bool) (w' : World) : Prop where
  row : w'.rowIs sp 52 2 (stF (.pointer (some ⟨dp, 0, none⟩)) dead)
  no : ¬ D1 sp
theorem SRow.bel {D1 : Nat → Prop} {sp dp : Nat} {dead : Bool} {w1 w2 : World} (h : SRow D1 sp dp dead w1) (k : Below w1.heap.size w1 w2) : SRow D1 sp dp dead w2 := ⟨zrb h.row k, h.no⟩
theorem SRow.new {T D T1 D1 D2 : Nat → Prop} {w : World} {dq : Nat} {S : DS} {sp dp : Nat} {dead : Bool} {w1 w2 : World} (h : SRow D1 sp dp dead w1) (ka : KAt T D w T1 D1 dq S w1) (k : Sam T1 w1 w2) (hd : ∀ x, D2 x → D1 x ∨ w1.heap.size ≤ x) : SRow D2 sp dp dead w2 :=
  ⟨Sam.row h.row k fun ht => h.no (dv_sub T1 D1 _ _ _ ka.dev sp ht), fun h2 => (hd sp h2).elim h.no fun h3 => by have := h.row.lt; omega⟩
set_option maxHeartbeats 4000000 in
set_option maxRecDepth 20000 in
theorem save_big (T D : Nat → Prop) (w : World) (sp dp B : Nat) (S : DS) (b : List UInt8) (vb : Value) (x : Ct) (dead : Bool) (h : BkAt T D w dp S) (r_s : w.rowIs sp 52 2 (stF (.pointer (some ⟨dp, 0, none⟩)) dead)) (hsp : ¬ D sp) (hok : okD S B) (hn2 : S.n ≤ 256) (hb : Bs w vb b) (hl : roomN S.n < b.length) : Calls Try.prog 13 #[.pointer (some ⟨sp, 0, none⟩), vb] w fun e w' => e = .returned (.int .i64 11) ∧ Below w.heap.size w w' := by
  obtain ⟨ad, N, cap, rfl, hN, y1, y2, hB0⟩ := hb.shape
  have HK := Lib.hid (KAt.start h)
  have HR : Hid (SRow D sp dp dead w) := Lib.hid ⟨r_s, hsp⟩
  have HDV := Lib.hid trivial
  have HLN := Lib.hid trivial
  have HOK := Lib.hid hok
  have HN2 := Lib.hid hn2
  have g1 : (roomN S.n : Int) < (N : Int) := by omega
  have HGS : Hid (∀ wq : World, Below w.heap.size w wq → w.heap.size ≤ wq.heap.size) := Lib.hid fun wq h => h.size
  have Bw0 := Below.refl w.heap.size w
  clear h r_s hsp hok hn2 hb hl hN y1 y2 hB0
  go_enter Try.func13, Try.ntmps13
  go_wp2_with (first
    | (have hgo := HDV; clear hgo
       go_at_call 23
       refine (device_any sp dp dead _ HR.out.row).mono ?_
       rintro e w1 ⟨rfl, rfl⟩
       clear HDV)
    | (have hgo := HLN; clear hgo
       go_at_call 24
       refine (dv_len _ _ _ dp S B HK.out.dev HOK.out).mono ?_
       rintro e w2 ⟨rfl, kk⟩
       have HRn := Lib.hid (HR.out.bel kk)
       clear HR
       have HR := HRn
       clear HRn
       have HKn := Lib.hid (HK.out.bel kk)
       clear HK
       have HK := HKn
       clear HKn
       have Bw1 := zbt HGS Bw0 kk
       clear Bw0
       clear kk HLN)
    | (go_at_call 14
       refine (roomS_any S.n _ (by have := HN2.out; omega)).mono ?_
       rintro e w3 ⟨rfl, rfl⟩))
  go_ret
  exact ⟨rfl, Bw1⟩
theorem two_stF (d : Value) (a b : Bool) : ∀ j, j < 2 → stF d b j = if j = 1 then .bool b else stF d a j := fun j hj => by
  unfold stF
  by_cases h0 : j = 0
  · rw [if_pos h0, if_neg (by omega), if_pos h0]
  · rw [if_neg h0, if_pos (by omega)]
/-- A device at dp, and a store's row beside it, as a call that began at w has them by now: the row may have turned too. -/
structure KSt (T D : Nat → Prop) (w : World) (sp : Nat) (T1 D1 : Nat → Prop) (dp : Nat) (S : DS) (w' : World) : Prop where
  dev : BkAt T1 D1 w' dp S
  sam : Sam (fun b => T b ∨ b = sp) w w'
  t : ∀ x, T1 x → T x ∨ w.heap.size ≤ x
  d : ∀ x, D1 x → D x ∨ w.heap.size ≤ x
theorem KAt.stepS {T D : Nat → Prop} {w : World} {T1 D1 : Nat → Prop} {dp sp : Nat} {S : DS} {F : Nat → Prop} {w1 w2 : World} (h : KAt T D w T1 D1 dp S w1) (k : Sam (· = sp) w1 w2) (hF : ∀ x, x = sp → ¬ D1 x) : KSt T D w sp T1 D1 dp S w2 := by
  have hz := h.sam.size
  exact ⟨dv_stay T1 D1 _ _ _ _ _ h.dev k hF, ⟨k.os.trans h.sam.os, k.tape.trans h.sam.tape, k.output.trans h.sam.output, Nat.le_trans hz k.size, fun x hx hn => (k.block x (by omega) fun hf => hn (.inr hf)).trans (h.sam.block x hx fun ht => hn (.inl ht))⟩, h.t, h.d⟩
set_option maxHeartbeats 4000000 in
set_option maxRecDepth 20000 in
theorem save_on (T D : Nat → Prop) (w : World) (sp dp B : Nat) (S : DS) (b : List UInt8) (vb : Value) (x : Ct) (dead : Bool) (h : BkAt T D w dp S) (r_s : w.rowIs sp 52 2 (stF (.pointer (some ⟨dp, 0, none⟩)) dead)) (hsp : ¬ D sp) (H : KeepIn S B b x) (hb : BsK T w vb b) : Calls Try.prog 13 #[.pointer (some ⟨sp, 0, none⟩), vb] w fun e w' => ∃ r S' T' D', e = .returned (.int .i64 r) ∧ KSt T D w sp T' D' dp S' w' ∧ ¬ D' sp ∧ KeepFin S B b x r S' ∧ w'.rowIs sp 52 2 (stF (.pointer (some ⟨dp, 0, none⟩)) (!decide (r = 0))) := by
  obtain ⟨ad, N, cap, rfl, hN, y1, y2, hB0⟩ := hb.bs.shape
  have HK := Lib.hid (KAt.start h)
  have HR : Hid (SRow D sp dp dead w) := Lib.hid ⟨r_s, hsp⟩
  have HDV := Lib.hid trivial
  have HLN := Lib.hid trivial
  have HOK := Lib.hid H.ok
  have HN2 := Lib.hid H.holds.n2
  have HI := Lib.hid H
  have HB := Lib.hid hb
  have HST := Lib.hid trivial
  have g1 : ¬ (roomN S.n : Int) < (N : Int) := by have := H.room; omega
  clear h r_s hsp H hb hN y1 y2 hB0
  go_enter Try.func13, Try.ntmps13
  go_wp2_with (first
    | (have hgo := HDV; clear hgo
       go_at_call 23
       refine (device_any sp dp dead _ HR.out.row).mono ?_
       rintro e w1 ⟨rfl, rfl⟩
       clear HDV)
    | (have hgo := HLN; clear hgo
       go_at_call 24
       refine (dv_len _ _ _ dp S B HK.out.dev HOK.out).mono ?_
       rintro e w2 ⟨rfl, kk⟩
       have HRn := Lib.hid (HR.out.bel kk)
       clear HR
       have HR := HRn
       clear HRn
       have HKn := Lib.hid (HK.out.bel kk)
       clear HK
       have HK := HKn
       clear HKn
       clear kk HLN)
    | (go_at_call 14
       refine (roomS_any S.n _ (by have := HN2.out; omega)).mono ?_
       rintro e w3 ⟨rfl, rfl⟩)
    | (have hgo := HI; clear hgo
       go_at_call 25
       refine (keep_any _ _ _ dp B S b _ x HK.out.dev HI.out (HK.out.bs HB.out)).mono ?_
       rintro e w5 ⟨r, S5, rfl, hn, hf⟩
       have HF := Lib.hid hf
       have hr := hf.ways
       obtain ⟨T5, D5, hkn, sk, tk, dk⟩ := HK.out.new hn
       have HRn := Lib.hid (HR.out.new HK.out sk dk)
       clear HR
       have HR := HRn
       clear HRn HK
       have HK := Lib.hid hkn
       clear hn hkn sk tk dk
       clear HI hf
       rcases hr.imp And.left And.left with rfl | rfl
       all_goals clear hr
       all_goals (first | (have HQ0 : Hid (KeepFin S B b x 0 S5) := HF) | (have HQ1 : Hid (KeepFin S B b x 10 S5) := HF)))
    | (have hgo := HQ0; clear hgo
       refine wpList_storeG 4 (.tmp 24) (.tmp 22) rfl rfl (stF (.pointer (some ⟨dp, 0, none⟩)) false) HR.out.row rfl rfl (by kernel_rfl) rfl rfl (by omega) (two_stF _ _ _) ?_
       intro w9 q sk
       have HR9 : Hid (w9.rowIs sp 52 2 (stF (.pointer (some ⟨dp, 0, none⟩)) false)) := Lib.hid q
       have HKn := Lib.hid (HK.out.stepS (F := fun _ => False) sk (fun z hz => by rw [hz]; exact HR.out.no))
       clear HK
       have HK := HKn
       clear HKn
       clear HQ0 q sk)
    | (have hgo := HQ1; clear hgo
       refine wpList_storeG 4 (.tmp 24) (.tmp 22) rfl rfl (stF (.pointer (some ⟨dp, 0, none⟩)) true) HR.out.row rfl rfl (by kernel_rfl) rfl rfl (by omega) (two_stF _ _ _) ?_
       intro w9 q sk
       have HR9 : Hid (w9.rowIs sp 52 2 (stF (.pointer (some ⟨dp, 0, none⟩)) true)) := Lib.hid q
       have HKn := Lib.hid (HK.out.stepS (F := fun _ => False) sk (fun z hz => by rw [hz]; exact HR.out.no))
       clear HK
       have HK := HKn
       clear HKn
       clear HQ1 q sk))
  all_goals (go_ret; exact ⟨_, _, _, _, rfl, HK.out, HR.out.no, HF.out, HR9.out⟩)
set_option maxHeartbeats 4000000 in
set_option maxRecDepth 20000 in
theorem save_off (T D : Nat → Prop) (w : World) (sp dp B : Nat) (S : DS) (b : List UInt8) (vb : Value) (x : Ct) (dead : Bool) (h : BkAt T D w dp S) (r_s : w.rowIs sp 52 2 (stF (.pointer (some ⟨dp, 0, none⟩)) dead)) (hsp : ¬ D sp) (hok : okD S B) (hbd : B ≤ 90000) (hof : S.off = true) (H : Holds S.good S.n x) (hrm : b.length ≤ roomN S.n) (hb : BsK T w vb b) : Calls Try.prog 13 #[.pointer (some ⟨sp, 0, none⟩), vb] w fun e w' => ∃ T' D', e = .returned (.int .i64 10) ∧ KSt T D w sp T' D' dp (opD S) w' ∧ ¬ D' sp ∧ w'.rowIs sp 52 2 (stF (.pointer (some ⟨dp, 0, none⟩)) true) := by
  obtain ⟨ad, N, cap, rfl, hN, y1, y2, hB0⟩ := hb.bs.shape
  have HK := Lib.hid (KAt.start h)
  have HR : Hid (SRow D sp dp dead w) := Lib.hid ⟨r_s, hsp⟩
  have HDV := Lib.hid trivial
  have HLN := Lib.hid trivial
  have HOK := Lib.hid hok
  have HN2 := Lib.hid H.n2
  have HI := Lib.hid H
  have HB := Lib.hid hb
  have HBD := Lib.hid hbd
  have HOF := Lib.hid hof
  have HRM := Lib.hid hrm
  have HST := Lib.hid trivial
  have g1 : ¬ (roomN S.n : Int) < (N : Int) := by omega
  clear h r_s hsp H hb hN y1 y2 hB0 hok hbd hof hrm
  go_enter Try.func13, Try.ntmps13
  go_wp2_with (first
    | (have hgo := HDV; clear hgo
       go_at_call 23
       refine (device_any sp dp dead _ HR.out.row).mono ?_
       rintro e w1 ⟨rfl, rfl⟩
       clear HDV)
    | (have hgo := HLN; clear hgo
       go_at_call 24
       refine (dv_len _ _ _ dp S B HK.out.dev HOK.out).mono ?_
       rintro e w2 ⟨rfl, kk⟩
       have HRn := Lib.hid (HR.out.bel kk)
       clear HR
       have HR := HRn
       clear HRn
       have HKn := Lib.hid (HK.out.bel kk)
       clear HK
       have HK := HKn
       clear HKn
       clear kk HLN)
    | (go_at_call 14
       refine (roomS_any S.n _ (by have := HN2.out; omega)).mono ?_
       rintro e w3 ⟨rfl, rfl⟩)
    | (have hgo := HI; clear hgo
       go_at_call 25
       refine (keep_off _ _ _ dp B S b _ x HK.out.dev HOK.out HBD.out HOF.out HI.out HRM.out (HK.out.bs HB.out)).mono ?_
       rintro e w5 ⟨rfl, hn⟩
       obtain ⟨T5, D5, hkn, sk, tk, dk⟩ := HK.out.new hn
       have HRn := Lib.hid (HR.out.new HK.out sk dk)
       clear HR
       have HR := HRn
       clear HRn HK
       have HK := Lib.hid hkn
       clear hn hkn sk tk dk
       clear HI)
    | (have hgo := HST; clear hgo
       refine wpList_storeG 4 (.tmp 24) (.tmp 22) rfl rfl (stF (.pointer (some ⟨dp, 0, none⟩)) true) HR.out.row rfl rfl (by kernel_rfl) rfl rfl (by omega) (two_stF _ _ _) ?_
       intro w9 q sk
       have HR9 : Hid (w9.rowIs sp 52 2 (stF (.pointer (some ⟨dp, 0, none⟩)) true)) := Lib.hid q
       have HKn := Lib.hid (HK.out.stepS (F := fun _ => False) sk (fun z hz => by rw [hz]; exact HR.out.no))
       clear HK
       have HK := HKn
       clear HKn
       clear HST q sk))
  go_ret
  exact ⟨_, _, rfl, HK.out, HR.out.no, HR9.out⟩
set_option maxHeartbeats 4000000 in
set_option maxRecDepth 20000 in
theorem saveN_any (w : World) (vb : Value) (b : List UInt8) (hb : Bs w vb b) : Calls Try.prog 13 #[.pointer none, vb] w fun e w' => e = .returned (.int .i64 10) ∧ Below w.heap.size w w' := by
  obtain ⟨ad, N, cap, rfl, hN, y1, y2, hB0⟩ := hb.shape
  go_enter Try.func13, Try.ntmps13
  go_wp2_with (first
    | (go_at_call 23
       refine (deviceN_any _).mono ?_
       rintro e w1 ⟨rfl, rfl⟩))
  go_ret
  exact ⟨rfl, Below.refl _ _⟩
end Go.Proofs.Ytefabimolfcllaa

/- The program's store: Load, Count, Dead, Open. -/
namespace Go.Proofs.Ytefabimolfcllaa
open Go.RowKit Go.Deep
set_option linter.unusedSimpArgs false
set_option linter.unusedVariables false

set_option maxHeartbeats 4000000 in
set_option maxRecDepth 20000 in
theorem load_none (T D : Nat → Prop) (w : World) (sp dp B : Nat) (S : DS) (x : Ct) (dead : Bool) (h : BkAt T D w dp S) (r_s : w.rowIs sp 52 2 (stF (.pointer (some ⟨dp, 0, none⟩)) dead)) (hok : okD S B) (hB : B ≤ 100000) (hp : S.off = false → ∀ k, S.pend k = []) (H : Holds S.good S.n x) (hx : x.2 = 0) : Calls Try.prog 20 #[.pointer (some ⟨sp, 0, none⟩)] w fun e w' => ∃ v, e = .returned (.tuple #[v, .int .i64 7]) ∧ Owns w' w.heap.size v [] ∧ Below w.heap.size w w' := by
  have HA := Lib.hid h
  have HOK := Lib.hid hok
  have HB := Lib.hid hB
  have HP := Lib.hid hp
  have HH := Lib.hid H
  have HR := Lib.hid r_s
  have HDV := Lib.hid trivial
  have HGS : Hid (∀ wq : World, Below w.heap.size w wq → w.heap.size ≤ wq.heap.size) := Lib.hid fun wq h => h.size
  have Bw0 := Below.refl w.heap.size w
  have e1 : ((x.2 : Int) == 0) = true := by rw [hx]; rfl
  clear h r_s hok hB hp H hx
  go_enter Try.func20, Try.ntmps20
  go_wp2_with (first
    | (have hgo := HDV; clear hgo
       go_at_call 23
       refine (device_any sp dp dead _ HR.out).mono ?_
       rintro e w1 ⟨rfl, rfl⟩
       clear HDV
       have HSF := Lib.hid trivial)
    | (have hgo := HSF; clear hgo
       go_at_call 35
       refine (safe_any T D _ dp B S HA.out HOK.out HB.out HP.out).mono ?_
       rintro e w2 ⟨y, Ty, Dy, Sy, rfl, hy, hoy, hny, hgy, kk⟩
       have HHY := Lib.hid (HH.out.congr2 hny hgy)
       have HY := Lib.hid hy
       have HOY := Lib.hid hoy
       have Bw1 := zbt HGS Bw0 kk
       clear Bw0 kk hy hoy hny hgy HSF
       have HHD := Lib.hid trivial)
    | (have hgo := HHD; clear hgo
       go_at_call 36
       refine (headOf_any Ty Dy _ y B Sy x HY.out HOY.out HB.out HHY.out).mono ?_
       rintro e w3 ⟨rfl, kk⟩
       have HYn := Lib.hid (dv_stay Ty Dy (fun _ => False) _ _ _ _ HY.out (Sam.of_below kk) (fun _ h => h.elim))
       clear HY
       have HY := HYn
       have Bw2 := zbt HGS Bw1 kk
       clear HYn kk Bw1 HHD)
    | (have hgo := Bw2; clear hgo
       refine wpList_alloc_row rfl 71 rfl 2 (hdF 0 0) zeroHead ?_
       intro x5 w4 lx r_x kk
       have L_x := zrl HGS Bw2 lx
       have Bw3 := zbt HGS Bw2 kk
       have HYn := Lib.hid (dv_stay Ty Dy (fun _ => False) _ _ _ _ HY.out (Sam.of_below kk) (fun _ h => h.elim))
       have HNX : Hid (¬ Dy x5) := Lib.hid fun hd => by have := dv_lt Ty Dy _ _ _ HY.out x5 hd; omega
       clear HY
       have HY := HYn
       clear HYn kk lx Bw2)
    | (have hgo := Bw3; clear hgo
       refine wpList_store_as rfl 71 (.tmp 5) (.tmp 13) rfl 2 (hdF x.2 x.1.length) isHead r_x rfl rfl (by omega) (fun j _ => by unfold hdF; split <;> rfl) (fun i hi => putN_whole hi) ?_
       intro w5 q gk
       have r_q := q
       have Bw4 := zbg HGS Bw3 gk L_x
       have HYn := Lib.hid (dv_stay Ty Dy (fun z => z = x5) _ _ _ _ HY.out (Sam.of_grown gk fun z hz => (Option.some.inj hz).symm) (fun z hz => by rw [hz]; exact HNX.out))
       clear HY
       have HY := HYn
       clear HYn q gk r_x Bw3 HNX)
    | (refine wpList_loadG 3 (.tmp 15) rfl rfl (.int .i64 (x.2 : Int)) r_q rfl (by omega) rfl (by kernel_rfl) ?_))
  refine bodyPost_ret (results_tmp2 rfl _ _ _) rfl ?_
  exact ⟨_, rfl, Owns.nil _ _, Bw4⟩
set_option maxHeartbeats 4000000 in
set_option maxRecDepth 20000 in
theorem load_some (T D : Nat → Prop) (w : World) (sp dp B : Nat) (S : DS) (x : Ct) (dead : Bool) (h : BkAt T D w dp S) (r_s : w.rowIs sp 52 2 (stF (.pointer (some ⟨dp, 0, none⟩)) dead)) (hok : okD S B) (hB : B ≤ 100000) (hp : S.off = false → ∀ k, S.pend k = []) (H : Holds S.good S.n x) (hx : ¬ x.2 = 0) : Calls Try.prog 20 #[.pointer (some ⟨sp, 0, none⟩)] w fun e w' => ∃ v, e = .returned (.tuple #[v, .int .i64 0]) ∧ Owns w' w.heap.size v x.1 ∧ Below w.heap.size w w' := by
  have HA := Lib.hid h
  have HOK := Lib.hid hok
  have HB := Lib.hid hB
  have HP := Lib.hid hp
  have HH := Lib.hid H
  have HR := Lib.hid r_s
  have HDV := Lib.hid trivial
  have HGS : Hid (∀ wq : World, Below w.heap.size w wq → w.heap.size ≤ wq.heap.size) := Lib.hid fun wq h => h.size
  have Bw0 := Below.refl w.heap.size w
  have e1 : ((x.2 : Int) == 0) = false := by simp; omega
  clear h r_s hok hB hp H hx
  go_enter Try.func20, Try.ntmps20
  go_wp2_with (first
    | (have hgo := HDV; clear hgo
       go_at_call 23
       refine (device_any sp dp dead _ HR.out).mono ?_
       rintro e w1 ⟨rfl, rfl⟩
       clear HDV
       have HSF := Lib.hid trivial)
    | (have hgo := HSF; clear hgo
       go_at_call 35
       refine (safe_any T D _ dp B S HA.out HOK.out HB.out HP.out).mono ?_
       rintro e w2 ⟨y, Ty, Dy, Sy, rfl, hy, hoy, hny, hgy, kk⟩
       have HHY := Lib.hid (HH.out.congr2 hny hgy)
       have HY := Lib.hid hy
       have HOY := Lib.hid hoy
       have Bw1 := zbt HGS Bw0 kk
       clear Bw0 kk hy hoy hny hgy HSF
       have HHD := Lib.hid trivial)
    | (have hgo := HHD; clear hgo
       go_at_call 36
       refine (headOf_any Ty Dy _ y B Sy x HY.out HOY.out HB.out HHY.out).mono ?_
       rintro e w3 ⟨rfl, kk⟩
       have HYn := Lib.hid (dv_stay Ty Dy (fun _ => False) _ _ _ _ HY.out (Sam.of_below kk) (fun _ h => h.elim))
       clear HY
       have HY := HYn
       have Bw2 := zbt HGS Bw1 kk
       clear HYn kk Bw1 HHD)
    | (have hgo := Bw2; clear hgo
       refine wpList_alloc_row rfl 71 rfl 2 (hdF 0 0) zeroHead ?_
       intro x5 w4 lx r_x kk
       have L_x := zrl HGS Bw2 lx
       have Bw3 := zbt HGS Bw2 kk
       have HYn := Lib.hid (dv_stay Ty Dy (fun _ => False) _ _ _ _ HY.out (Sam.of_below kk) (fun _ h => h.elim))
       have HNX : Hid (¬ Dy x5) := Lib.hid fun hd => by have := dv_lt Ty Dy _ _ _ HY.out x5 hd; omega
       clear HY
       have HY := HYn
       clear HYn kk lx Bw2)
    | (have hgo := Bw3; clear hgo
       refine wpList_store_as rfl 71 (.tmp 5) (.tmp 13) rfl 2 (hdF x.2 x.1.length) isHead r_x rfl rfl (by omega) (fun j _ => by unfold hdF; split <;> rfl) (fun i hi => putN_whole hi) ?_
       intro w5 q gk
       have r_q := q
       have Bw4 := zbg HGS Bw3 gk L_x
       have HYn := Lib.hid (dv_stay Ty Dy (fun z => z = x5) _ _ _ _ HY.out (Sam.of_grown gk fun z hz => (Option.some.inj hz).symm) (fun z hz => by rw [hz]; exact HNX.out))
       clear HY
       have HY := HYn
       clear HYn q gk r_x Bw3 HNX)
    | (refine wpList_loadG 3 (.tmp 15) rfl rfl (.int .i64 (x.2 : Int)) r_q rfl (by omega) rfl (by kernel_rfl) ?_)
    | (refine wpList_load_as rfl 71 (.tmp 5) rfl 2 (hdF x.2 x.1.length) isHead r_q rfl (by omega) (fun i _ => by rw [Nat.zero_add]) ?_)
    | (have hgo := Bw4; clear hgo
       go_at_call 37
       refine (read_any Ty Dy _ y B Sy x.1 x.2 HY.out HOY.out HB.out HHY.out).mono ?_
       rintro e w6 ⟨v_r, rfl, o_r, kk⟩
       have o_z := o_r.lower (HGS.out _ Bw4)
       have Bw5 := zbt HGS Bw4 kk
       clear Bw4 kk o_r))
  refine bodyPost_ret (results_tmp2 rfl _ _ _) rfl ?_
  exact ⟨_, rfl, o_z, Bw5⟩
set_option maxHeartbeats 4000000 in
set_option maxRecDepth 20000 in
theorem count_any (T D : Nat → Prop) (w : World) (sp dp B : Nat) (S : DS) (x : Ct) (dead : Bool) (h : BkAt T D w dp S) (r_s : w.rowIs sp 52 2 (stF (.pointer (some ⟨dp, 0, none⟩)) dead)) (hok : okD S B) (hB : B ≤ 100000) (hp : S.off = false → ∀ k, S.pend k = []) (H : Holds S.good S.n x) : Calls Try.prog 21 #[.pointer (some ⟨sp, 0, none⟩)] w fun e w' => e = .returned (.int .i64 (x.2 : Int)) ∧ Below w.heap.size w w' := by
  have HA := Lib.hid h
  have HOK := Lib.hid hok
  have HB := Lib.hid hB
  have HP := Lib.hid hp
  have HH := Lib.hid H
  have HR := Lib.hid r_s
  have HDV := Lib.hid trivial
  have HGS : Hid (∀ wq : World, Below w.heap.size w wq → w.heap.size ≤ wq.heap.size) := Lib.hid fun wq h => h.size
  have Bw0 := Below.refl w.heap.size w
  clear h r_s hok hB hp H
  go_enter Try.func21, Try.ntmps21
  go_wp2_with (first
    | (have hgo := HDV; clear hgo
       go_at_call 23
       refine (device_any sp dp dead _ HR.out).mono ?_
       rintro e w1 ⟨rfl, rfl⟩
       clear HDV
       have HSF := Lib.hid trivial)
    | (have hgo := HSF; clear hgo
       go_at_call 35
       refine (safe_any T D _ dp B S HA.out HOK.out HB.out HP.out).mono ?_
       rintro e w2 ⟨y, Ty, Dy, Sy, rfl, hy, hoy, hny, hgy, kk⟩
       have HHY := Lib.hid (HH.out.congr2 hny hgy)
       have HY := Lib.hid hy
       have HOY := Lib.hid hoy
       have Bw1 := zbt HGS Bw0 kk
       clear Bw0 kk hy hoy hny hgy HSF
       have HHD := Lib.hid trivial)
    | (have hgo := HHD; clear hgo
       go_at_call 36
       refine (headOf_any Ty Dy _ y B Sy x HY.out HOY.out HB.out HHY.out).mono ?_
       rintro e w3 ⟨rfl, kk⟩
       have HYn := Lib.hid (dv_stay Ty Dy (fun _ => False) _ _ _ _ HY.out (Sam.of_below kk) (fun _ h => h.elim))
       clear HY
       have HY := HYn
       have Bw2 := zbt HGS Bw1 kk
       clear HYn kk Bw1 HHD)
    | (have hgo := Bw2; clear hgo
       refine wpList_alloc_row rfl 71 rfl 2 (hdF 0 0) zeroHead ?_
       intro x5 w4 lx r_x kk
       have L_x := zrl HGS Bw2 lx
       have Bw3 := zbt HGS Bw2 kk
       have HYn := Lib.hid (dv_stay Ty Dy (fun _ => False) _ _ _ _ HY.out (Sam.of_below kk) (fun _ h => h.elim))
       have HNX : Hid (¬ Dy x5) := Lib.hid fun hd => by have := dv_lt Ty Dy _ _ _ HY.out x5 hd; omega
       clear HY
       have HY := HYn
       clear HYn kk lx Bw2)
    | (have hgo := Bw3; clear hgo
       refine wpList_store_as rfl 71 (.tmp 3) (.tmp 10) rfl 2 (hdF x.2 x.1.length) isHead r_x rfl rfl (by omega) (fun j _ => by unfold hdF; split <;> rfl) (fun i hi => putN_whole hi) ?_
       intro w5 q gk
       have r_q := q
       have Bw4 := zbg HGS Bw3 gk L_x
       have HYn := Lib.hid (dv_stay Ty Dy (fun z => z = x5) _ _ _ _ HY.out (Sam.of_grown gk fun z hz => (Option.some.inj hz).symm) (fun z hz => by rw [hz]; exact HNX.out))
       clear HY
       have HY := HYn
       clear HYn q gk r_x Bw3 HNX)
    | (refine wpList_loadG 3 (.tmp 12) rfl rfl (.int .i64 (x.2 : Int)) r_q rfl (by omega) rfl (by kernel_rfl) ?_))
  go_ret
  exact ⟨rfl, Bw4⟩
set_option maxHeartbeats 4000000 in
set_option maxRecDepth 20000 in
theorem dead_any (w : World) (sp dp : Nat) (dead : Bool) (r_s : w.rowIs sp 52 2 (stF (.pointer (some ⟨dp, 0, none⟩)) dead)) : Calls Try.prog 18 #[.pointer (some ⟨sp, 0, none⟩)] w fun e w' => e = .returned (.bool dead) ∧ Below w.heap.size w w' := by
  have HR := Lib.hid r_s
  clear r_s
  go_enter Try.func18, Try.ntmps18
  go_wp2_with (first
    | (go_at_call 23
       refine (device_any sp dp dead _ HR.out).mono ?_
       rintro e w1 ⟨rfl, rfl⟩)
    | (refine wpList_loadG 4 (.tmp 9) rfl rfl (.bool dead) HR.out rfl (by omega) rfl (by kernel_rfl) ?_))
  go_ret
  exact ⟨rfl, Below.refl _ _⟩
theorem deadN_any (w : World) : Calls Try.prog 18 #[.pointer none] w fun e w' => e = .returned (.bool true) ∧ Below w.heap.size w w' := by
  go_enter Try.func18, Try.ntmps18
  go_wp2_with (first
    | (go_at_call 23
       refine (deviceN_any _).mono ?_
       rintro e w1 ⟨rfl, rfl⟩))
  go_ret
  exact ⟨rfl, Below.refl _ _⟩
set_option maxHeartbeats 4000000 in
set_option maxRecDepth 20000 in
theorem loadN_any (w : World) : Calls Try.prog 20 #[.pointer none] w fun e w' => ∃ v, e = .returned (.tuple #[v, .int .i64 7]) ∧ Below w.heap.size w w' := by
  have HGS : Hid (∀ wq : World, Below w.heap.size w wq → w.heap.size ≤ wq.heap.size) := Lib.hid fun wq h => h.size
  have Bw0 := Below.refl w.heap.size w
  go_enter Try.func20, Try.ntmps20
  go_wp2_with (first
    | (go_at_call 23
       refine (deviceN_any _).mono ?_
       rintro e w1 ⟨rfl, rfl⟩)
    | (have hgo := Bw0; clear hgo
       go_at_call 35
       refine (safeN_any _).mono ?_
       rintro e w2 ⟨rfl, kk⟩
       have Bw1 := zbt HGS Bw0 kk
       clear Bw0 kk)
    | (have hgo := Bw1; clear hgo
       go_at_call 36
       refine (headOf_nil _).mono ?_
       rintro e w3 ⟨rfl, kk⟩
       have Bw2 := zbt HGS Bw1 kk
       clear Bw1 kk)
    | (have hgo := Bw2; clear hgo
       refine wpList_alloc_row rfl 71 rfl 2 (hdF 0 0) zeroHead ?_
       intro x5 w4 lx r_x kk
       have L_x := zrl HGS Bw2 lx
       have Bw3 := zbt HGS Bw2 kk
       clear kk lx Bw2)
    | (have hgo := Bw3; clear hgo
       refine wpList_store_as rfl 71 (.tmp 5) (.tmp 13) rfl 2 (hdF 0 0) isHead r_x rfl rfl (by omega) (fun j _ => by unfold hdF; split <;> rfl) (fun i hi => putN_whole hi) ?_
       intro w5 q gk
       have r_q := q
       have Bw4 := zbg HGS Bw3 gk L_x
       clear q gk r_x Bw3)
    | (refine wpList_loadG 3 (.tmp 15) rfl rfl (.int .i64 0) r_q rfl (by omega) rfl (by kernel_rfl) ?_))
  refine bodyPost_ret (results_tmp2 rfl _ _ _) rfl ?_
  exact ⟨_, rfl, Bw4⟩
set_option maxHeartbeats 4000000 in
set_option maxRecDepth 20000 in
theorem countN_any (w : World) : Calls Try.prog 21 #[.pointer none] w fun e w' => e = .returned (.int .i64 0) ∧ Below w.heap.size w w' := by
  have HGS : Hid (∀ wq : World, Below w.heap.size w wq → w.heap.size ≤ wq.heap.size) := Lib.hid fun wq h => h.size
  have Bw0 := Below.refl w.heap.size w
  go_enter Try.func21, Try.ntmps21
  go_wp2_with (first
    | (go_at_call 23
       refine (deviceN_any _).mono ?_
       rintro e w1 ⟨rfl, rfl⟩)
    | (have hgo := Bw0; clear hgo
       go_at_call 35
       refine (safeN_any _).mono ?_
       rintro e w2 ⟨rfl, kk⟩
       have Bw1 := zbt HGS Bw0 kk
       clear Bw0 kk)
    | (have hgo := Bw1; clear hgo
       go_at_call 36
       refine (headOf_nil _).mono ?_
       rintro e w3 ⟨rfl, kk⟩
       have Bw2 := zbt HGS Bw1 kk
       clear Bw1 kk)
    | (have hgo := Bw2; clear hgo
       refine wpList_alloc_row rfl 71 rfl 2 (hdF 0 0) zeroHead ?_
       intro x5 w4 lx r_x kk
       have L_x := zrl HGS Bw2 lx
       have Bw3 := zbt HGS Bw2 kk
       clear kk lx Bw2)
    | (have hgo := Bw3; clear hgo
       refine wpList_store_as rfl 71 (.tmp 3) (.tmp 10) rfl 2 (hdF 0 0) isHead r_x rfl rfl (by omega) (fun j _ => by unfold hdF; split <;> rfl) (fun i hi => putN_whole hi) ?_
       intro w5 q gk
       have r_q := q
       have Bw4 := zbg HGS Bw3 gk L_x
       clear q gk r_x Bw3)
    | (refine wpList_loadG 3 (.tmp 12) rfl rfl (.int .i64 0) r_q rfl (by omega) rfl (by kernel_rfl) ?_))
  go_ret
  exact ⟨rfl, Bw4⟩
set_option maxHeartbeats 4000000 in
set_option maxRecDepth 20000 in
theorem openN_any (w : World) : Calls Try.prog 16 #[.pointer none] w fun e w' => e = .returned (.tuple #[.pointer none, .int .i64 1]) ∧ Below w.heap.size w w' := by
  have HGS : Hid (∀ wq : World, Below w.heap.size w wq → w.heap.size ≤ wq.heap.size) := Lib.hid fun wq h => h.size
  have Bw0 := Below.refl w.heap.size w
  go_enter Try.func16, Try.ntmps16
  go_wp2_with (first
    | (have hgo := Bw0; clear hgo
       go_at_call 24
       refine (dv_lenN _).mono ?_
       rintro e w1 ⟨rfl, kk⟩
       have Bw1 := zbt HGS Bw0 kk
       clear Bw0 kk))
  refine bodyPost_ret (results_tmp2 rfl _ _ _) rfl ?_
  exact ⟨rfl, Bw1⟩
set_option maxHeartbeats 4000000 in
set_option maxRecDepth 20000 in
theorem open_small (T D : Nat → Prop) (w : World) (dp B : Nat) (S : DS) (h : BkAt T D w dp S) (hok : okD S B) (hn : S.n < 64) : Calls Try.prog 16 #[.pointer (some ⟨dp, 0, none⟩)] w fun e w' => e = .returned (.tuple #[.pointer none, .int .i64 1]) ∧ Below w.heap.size w w' := by
  have HA := Lib.hid h
  have HOK := Lib.hid hok
  have g1 : (S.n : Int) < 64 := by omega
  have HGS : Hid (∀ wq : World, Below w.heap.size w wq → w.heap.size ≤ wq.heap.size) := Lib.hid fun wq h => h.size
  have Bw0 := Below.refl w.heap.size w
  clear h hok hn
  go_enter Try.func16, Try.ntmps16
  go_wp2_with (first
    | (have hgo := Bw0; clear hgo
       go_at_call 24
       refine (dv_len T D _ dp S B HA.out HOK.out).mono ?_
       rintro e w1 ⟨rfl, kk⟩
       have Bw1 := zbt HGS Bw0 kk
       clear Bw0 kk))
  refine bodyPost_ret (results_tmp2 rfl _ _ _) rfl ?_
  exact ⟨rfl, Bw1⟩
set_option maxHeartbeats 4000000 in
set_option maxRecDepth 20000 in
theorem open_yes (T D : Nat → Prop) (w : World) (dp B : Nat) (S : DS) (h : BkAt T D w dp S) (hok : okD S B) (x : Ct) (hB : B ≤ 90000) (hn : 64 ≤ S.n) (hp : ∀ k, S.pend k = []) (H : Holds S.good S.n x) (ho : opOk S = true) : Calls Try.prog 16 #[.pointer (some ⟨dp, 0, none⟩)] w fun e w' => ∃ sp T' D', e = .returned (.tuple #[.pointer (some ⟨sp, 0, none⟩), .int .i64 0]) ∧ KAt T D w T' D' dp (flT S) w' ∧ w'.rowIs sp 52 2 (stF (.pointer (some ⟨dp, 0, none⟩)) false) ∧ ¬ D' sp ∧ w.heap.size ≤ sp := by
  have HK := Lib.hid (KAt.start h)
  have HOK := Lib.hid hok
  have HB := Lib.hid hB
  have HO := Lib.hid ho
  have HH := Lib.hid (H.congr2 (Sy := S) rfl fun k _ => nowS_pend S k (hp k))
  have g1 : ¬ (S.n : Int) < 64 := by omega
  have HLN := Lib.hid trivial
  clear h hok hB hn hp H ho
  go_enter Try.func16, Try.ntmps16
  go_wp2_with (first
    | (have hgo := HLN; clear hgo
       go_at_call 24
       refine (dv_len _ _ _ dp S B HK.out.dev HOK.out).mono ?_
       rintro e w1 ⟨rfl, kk⟩
       have HKn := Lib.hid (HK.out.bel kk)
       clear HK
       have HK := HKn
       clear HKn
       clear kk HLN
       have HIS := Lib.hid trivial)
    | (have hgo := HIS; clear hgo
       go_at_call 26
       refine (isStore_any _ _ _ dp B S x HK.out.dev HOK.out (by have := HB.out; omega) HH.out).mono ?_
       rintro e w2 ⟨rfl, kk⟩
       have HKn := Lib.hid (HK.out.bel kk)
       clear HK
       have HK := HKn
       clear HKn
       clear kk HIS
       have HFL := Lib.hid trivial)
    | (have hgo := HFL; clear hgo
       go_at_call 27
       refine (dv_flush _ _ _ dp S B HK.out.dev HOK.out (by have := HB.out; omega)).mono ?_
       rintro e w3 ⟨rfl, hn⟩
       rw [(flT_yes HO.out).1]
       obtain ⟨T3, D3, hkn, sk, tk, dk⟩ := HK.out.new hn
       clear HK
       have HK := Lib.hid hkn
       clear hn hkn sk tk dk HFL)
    | (refine wpList_build_arr rfl 52 #[(0, .tmp 16)] rfl (arrOf 2 (stF (.pointer (some ⟨dp, 0, none⟩)) false)) ?_ ?_
       · simp only [List.map_toArray, List.map_cons, List.map_nil]; exact builtStore _)
    | (have hgo := HK; clear hgo
       refine wpList_box_row rfl 52 (.tmp 17) rfl 2 (stF (.pointer (some ⟨dp, 0, none⟩)) false) rfl ?_
       intro sp w4 lx r_s kk
       have HSP := Lib.hid (KRow.start HK.out lx r_s)
       have HKb := Lib.hid (HK.out.bel kk)
       clear HK kk lx r_s))
  refine bodyPost_ret (results_tmp2 rfl _ _ _) rfl ?_
  exact ⟨_, _, _, rfl, HKb.out, HSP.out.row, HSP.out.no, HSP.out.ge⟩
set_option maxHeartbeats 4000000 in
set_option maxRecDepth 20000 in
theorem open_off (T D : Nat → Prop) (w : World) (dp B : Nat) (S : DS) (h : BkAt T D w dp S) (hok : okD S B) (x : Ct) (hB : B ≤ 90000) (hn : 64 ≤ S.n) (hp : ∀ k, S.pend k = []) (H : Holds S.good S.n x) (ho : opOk S = false) : Calls Try.prog 16 #[.pointer (some ⟨dp, 0, none⟩)] w fun e w' => ∃ T' D', e = .returned (.tuple #[.pointer none, .int .i64 10]) ∧ KAt T D w T' D' dp (opD S) w' := by
  have HK := Lib.hid (KAt.start h)
  have HOK := Lib.hid hok
  have HB := Lib.hid hB
  have HO := Lib.hid ho
  have HH := Lib.hid (H.congr2 (Sy := S) rfl fun k _ => nowS_pend S k (hp k))
  have g1 : ¬ (S.n : Int) < 64 := by omega
  have HLN := Lib.hid trivial
  clear h hok hB hn hp H ho
  go_enter Try.func16, Try.ntmps16
  go_wp2_with (first
    | (have hgo := HLN; clear hgo
       go_at_call 24
       refine (dv_len _ _ _ dp S B HK.out.dev HOK.out).mono ?_
       rintro e w1 ⟨rfl, kk⟩
       have HKn := Lib.hid (HK.out.bel kk)
       clear HK
       have HK := HKn
       clear HKn
       clear kk HLN
       have HIS := Lib.hid trivial)
    | (have hgo := HIS; clear hgo
       go_at_call 26
       refine (isStore_any _ _ _ dp B S x HK.out.dev HOK.out (by have := HB.out; omega) HH.out).mono ?_
       rintro e w2 ⟨rfl, kk⟩
       have HKn := Lib.hid (HK.out.bel kk)
       clear HK
       have HK := HKn
       clear HKn
       clear kk HIS
       have HFL := Lib.hid trivial)
    | (have hgo := HFL; clear hgo
       go_at_call 27
       refine (dv_flush _ _ _ dp S B HK.out.dev HOK.out (by have := HB.out; omega)).mono ?_
       rintro e w3 ⟨rfl, hn⟩
       rw [(flT_no HO.out).1]
       rw [(flT_no HO.out).2] at hn
       obtain ⟨T3, D3, hkn, sk, tk, dk⟩ := HK.out.new hn
       clear HK
       have HK := Lib.hid hkn
       clear hn hkn sk tk dk HFL))
  refine bodyPost_ret (results_tmp2 rfl _ _ _) rfl ?_
  exact ⟨_, _, rfl, HK.out⟩
end Go.Proofs.Ytefabimolfcllaa

/- The program's store keeps what is asked of one. -/
namespace Go.Proofs.Ytefabimolfcllaa
open Go.RowKit Go.Deep
set_option linter.unusedSimpArgs false
set_option linter.unusedVariables false

/-- A device on which a store would hold x. -/
structure BAtS (Td Dd : Nat → Prop) (S : DS) (T D : Nat → Prop) (w : World) (dp n B : Nat) (x : Ct) (live : Bool) : Prop where
  dev : BkAt Td Dd w dp S
  tt : ∀ b, Td b → T b
  dd : ∀ b, Dd b → D b
  td : ∀ b, T b → D b
  dl : ∀ b, D b → b < w.heap.size
  hn : S.n = n
  ok : okD S B
  holds : Holds S.good S.n x
  pend : ∀ k, S.pend k = []
  hlive : live = true → S.cut = false ∧ S.off = false
def BAt (T D : Nat → Prop) (w : World) (dp n B : Nat) (x : Ct) (live : Bool) : Prop := ∃ Td Dd S, BAtS Td Dd S T D w dp n B x live
/-- A store that holds x; a crash leaves one of K. -/
structure SAtS (Td Dd : Nat → Prop) (S : DS) (T D : Nat → Prop) (w : World) (sp dp n B : Nat) (K : List Ct) (x : Ct) (dead live : Bool) : Prop where
  dev : BkAt Td Dd w dp S
  row : w.rowIs sp 52 2 (stF (.pointer (some ⟨dp, 0, none⟩)) dead)
  no : ¬ Dd sp
  tt : ∀ b, Td b ∨ b = sp → T b
  dd : ∀ b, Dd b → D b
  td : ∀ b, T b → D b
  dl : ∀ b, D b → b < w.heap.size
  hn : S.n = n
  n64 : 64 ≤ n
  ok : okD S B
  bd : B ≤ 100000
  holds : Holds S.good S.n x
  hlive : live = true → S.cut = false
  crash : CrashOk S K
  on : dead = false → S.off = false ∧ (∀ k, S.pend k = []) ∧ K = [x]
  hdead : dead = true → S.off = true
def SAt (T D : Nat → Prop) (w : World) (sp dp n B : Nat) (K : List Ct) (x : Ct) (dead live : Bool) : Prop := ∃ Td Dd S, SAtS Td Dd S T D w sp dp n B K x dead live
theorem SAtS.pendOf {Td Dd : Nat → Prop} {S : DS} {T D : Nat → Prop} {w : World} {sp dp n B : Nat} {K : List Ct} {x : Ct} {dead live : Bool} (h : SAtS Td Dd S T D w sp dp n B K x dead live) : S.off = false → ∀ k, S.pend k = [] := fun ho => by
  cases dead with
  | false => exact (h.on rfl).2.1
  | true => rw [h.hdead rfl] at ho; cases ho
theorem crash_ok0 {S : DS} {B : Nat} (h : okD S B) (L : Nat) (pk : Nat → Int) : okD (crI S L pk S.n) 0 := by
  have g := crash_okD h L pk
  exact ⟨Nat.le_refl _, g.n1, g.n, g.left, g.good, g.pend, fun k => Nat.le_refl _⟩
theorem fl_same {S : DS} (ho : opOk S = true) (hp : ∀ k, S.pend k = []) : (flT S).n = S.n ∧ (∀ k, k < S.n → (flT S).good k = S.good k) ∧ (∀ k, (flT S).pend k = []) ∧ (flT S).off = false ∧ (flT S).cut = S.cut := by
  have hg := (flT_yes ho).2
  rw [hg]
  refine ⟨(opD_same S).1, fun k hk => ?_, flI_pend2 fun k _ => hp k, (opOk_off ho).2, opD_cut S⟩
  rw [flI_good2 k hk, nowS_pend _ _ (hp k)]
theorem fl_ok {S : DS} {B : Nat} (h : okD S B) : okD (flT S) (B + 1000) := (flT_ok h).more (by omega)
/-- What a store is behind a save. -/
theorem save_at {Td Dd : Nat → Prop} {S : DS} {T D : Nat → Prop} {w w' : World} {sp dp n B : Nat} {K : List Ct} {x y : Ct} {dead dead' live : Bool} {K' : List Ct} (h : SAtS Td Dd S T D w sp dp n B K x dead live) {T' D' : Nat → Prop} {S' : DS} (k : KSt Td Dd w sp T' D' dp S' w') (hsp : ¬ D' sp)
    (hr : w'.rowIs sp 52 2 (stF (.pointer (some ⟨dp, 0, none⟩)) dead')) (hn : S'.n = S.n) (hc : S'.cut = S.cut) (hok : okD S' (B + 1000)) (hbd : B + 1000 ≤ 100000) (hh : Holds S'.good S'.n y) (hcr : CrashOk S' K') (hon : dead' = false → S'.off = false ∧ (∀ k, S'.pend k = []) ∧ K' = [y]) (hd : dead' = true → S'.off = true) :
    ∃ T'' D'', SAt T'' D'' w' sp dp n (B + 1000) K' y dead' live ∧ Goes T D T'' D'' w w' := by
  refine ⟨fun b => T' b ∨ b = sp, fun b => D' b ∨ b = sp, ⟨T', D', S', k.dev, hr, hsp, fun b h => h, fun b h => .inl h, fun b hb => hb.imp (dv_sub T' D' _ _ _ k.dev b) id, fun b hb => hb.elim (dv_lt T' D' _ _ _ k.dev b) fun e => by rw [e]; exact hr.lt, hn.trans h.hn, h.n64, hok, hbd, hh, fun hl => hc.trans (h.hlive hl), hcr, hon, hd⟩, ⟨k.sam.mono fun b _ hb => h.tt b hb, fun b hb => ?_, fun b hb => ?_⟩⟩
  · rcases hb with hb | hb
    · exact (k.t b hb).imp (fun h2 => h.tt b (.inl h2)) id
    · exact .inl (h.tt b (.inr hb))
  · rcases hb with hb | hb
    · exact (k.d b hb).imp (h.dd b) id
    · exact .inl (h.td b (h.tt b (.inr hb)))
theorem stoApi : StApi BAt SAt where
  bsub := fun T D w dp n B x live ⟨_, _, _, h⟩ => h.td
  blt := fun T D w dp n B x live ⟨_, _, _, h⟩ => h.dl
  bstay := fun T D F w w' dp n B x live ⟨Td, Dd, S, h⟩ k hF => ⟨Td, Dd, S, dv_stay Td Dd F _ _ _ _ h.dev k (fun b hb hd => hF b hb (h.dd b hd)), h.tt, h.dd, h.td, fun b hb => Nat.lt_of_lt_of_le (h.dl b hb) k.size, h.hn, h.ok, h.holds, h.pend, h.hlive⟩
  ssub := fun T D w sp dp n B K x dead live ⟨_, _, _, h⟩ => h.td
  slt := fun T D w sp dp n B K x dead live ⟨_, _, _, h⟩ => h.dl
  sstay := fun T D F w w' sp dp n B K x dead live ⟨Td, Dd, S, h⟩ k hF => ⟨Td, Dd, S, dv_stay Td Dd F _ _ _ _ h.dev k (fun b hb hd => hF b hb (h.dd b hd)), Sam.row h.row k fun hf => hF sp hf (h.td sp (h.tt sp (.inr rfl))), h.no, h.tt, h.dd, h.td, fun b hb => Nat.lt_of_lt_of_le (h.dl b hb) k.size, h.hn, h.n64, h.ok, h.bd, h.holds, h.hlive, h.crash, h.on, h.hdead⟩
  toB := fun T D w sp dp n B x live ⟨Td, Dd, S, h⟩ => ⟨Td, Dd, S, h.dev, fun b hb => h.tt b (.inl hb), h.dd, h.td, h.dl, h.hn, h.ok, h.holds, (h.on rfl).2.1, fun hl => ⟨h.hlive hl, (h.on rfl).1⟩⟩
  new := fun w n h1 h2 => by
    refine (new_yes n w h1 (by omega)).mono ?_
    rintro e w' ⟨y, T, D, rfl, hb, hd, kk⟩
    refine ⟨y, T, D, rfl, ⟨T, D, newS n, hb, fun b h => h, fun b h => h, dv_sub T D _ _ _ hb, dv_lt T D _ _ _ hb, rfl, ⟨Nat.le_refl _, h1, by show n ≤ 65536; omega, rfl, fun k _ => List.length_replicate, fun k _ l hl => (by cases hl), fun k => Nat.le_refl _⟩, holds_new n h1 h2, fun k => rfl, fun _ => ⟨rfl, rfl⟩⟩, kk, fun b hb2 => hd b (dv_sub T D _ _ _ hb b hb2), fun b hb2 => .inr (hd b hb2)⟩
  crashB := fun T D w dp n B x live L pk vp ⟨Td, Dd, S, h⟩ hB hv hL hw => by
    refine (dv_crash Td Dd w dp S B L pk vp h.dev h.ok (by omega) hv hL hw).mono ?_
    rintro e w' ⟨y', T', D', rfl, hb, kk, h1, h2⟩
    exact ⟨y', T', D', rfl, ⟨T', D', _, hb, fun b h => h, fun b h => h, dv_sub T' D' _ _ _ hb, dv_lt T' D' _ _ _ hb, h.hn, crash_ok0 h.ok L pk, crash_calm (fun k _ => h.pend k) h.holds L pk, fun k => rfl, fun _ => ⟨rfl, rfl⟩⟩, kk, h1, fun b hb2 => (h2 b hb2).imp (fun h3 => h.dd b h3.1) id⟩
  crashS := fun T D w sp dp n B K x dead live L pk vp ⟨Td, Dd, S, h⟩ hB hv hL hw => by
    refine (dv_crash Td Dd w dp S B L pk vp h.dev h.ok (by omega) hv hL hw).mono ?_
    rintro e w' ⟨y', T', D', rfl, hb, kk, h1, h2⟩
    obtain ⟨z, hz, hh⟩ := h.crash L pk
    exact ⟨y', T', D', z, rfl, hz, ⟨T', D', _, hb, fun b h => h, fun b h => h, dv_sub T' D' _ _ _ hb, dv_lt T' D' _ _ _ hb, h.hn, crash_ok0 h.ok L pk, hh, fun k => rfl, fun _ => ⟨rfl, rfl⟩⟩, kk, h1, fun b hb2 => (h2 b hb2).imp (fun h3 => h.dd b h3.1) id⟩
  cutB := fun T D w dp n B x live c ⟨Td, Dd, S, h⟩ hc => by
    refine (dv_cut Td Dd w dp S c h.dev).mono ?_
    rintro e w' ⟨rfl, T', D', hb, k, h1, h2⟩
    exact ⟨rfl, T', D', ⟨T', D', _, hb, fun b h => h, fun b h => h, dv_sub T' D' _ _ _ hb, dv_lt T' D' _ _ _ hb, h.hn, cutS_ok h.ok c (WalkArith.wf_i64 (by omega)), h.holds, h.pend, fun hl => by cases hl⟩, k.mono fun b _ hb => h.tt b hb, fun b hb => (h1 b hb).imp (h.tt b) id, fun b hb => (h2 b hb).imp (h.dd b) id⟩
  cutS := fun T D w sp dp n B K x dead live c ⟨Td, Dd, S, h⟩ hc => by
    refine (dv_cut Td Dd w dp S c h.dev).mono ?_
    rintro e w' ⟨rfl, T', D', hb, k, h1, h2⟩
    have ns : ¬ Td sp := fun ht => h.no (dv_sub Td Dd _ _ _ h.dev sp ht)
    have hr := Sam.row h.row k ns
    have nd : ¬ D' sp := fun hd => (h2 sp hd).elim h.no fun h3 => by have := h.row.lt; omega
    exact ⟨rfl, fun b => T' b ∨ b = sp, fun b => D' b ∨ b = sp, ⟨T', D', _, hb, hr, nd, fun b h => h, fun b h => .inl h, fun b hb2 => hb2.imp (dv_sub T' D' _ _ _ hb b) id, fun b hb2 => hb2.elim (dv_lt T' D' _ _ _ hb b) fun e => by rw [e]; exact hr.lt, h.hn, h.n64, cutS_ok h.ok c (WalkArith.wf_i64 (by omega)), h.bd, h.holds, (fun hl => by cases hl), h.crash, h.on, h.hdead⟩, k.mono fun b _ hb => h.tt b (.inl hb), fun b hb => hb.elim (fun hb => (h1 b hb).imp (fun h3 => h.tt b (.inl h3)) id) fun e => .inl (h.tt b (.inr e)), fun b hb => hb.elim (fun hb => (h2 b hb).imp (h.dd b) id) fun e => .inl (h.td b (h.tt b (.inr e)))⟩
  openNil := fun w => openN_any w
  openSmall := fun T D w dp n B x live ⟨Td, Dd, S, h⟩ hn => open_small Td Dd w dp B S h.dev h.ok (by rw [h.hn]; exact hn)
  openYes := fun T D w dp n B x ⟨Td, Dd, S, h⟩ hn hB => by
    have ho := opOk_live (h.hlive rfl).2 (h.hlive rfl).1
    refine (open_yes Td Dd w dp B S h.dev h.ok x hB (by rw [h.hn]; exact hn) h.pend h.holds ho).mono ?_
    rintro e w' ⟨sp, T', D', rfl, k, hr, hns, hge⟩
    obtain ⟨e1, e2, e3, e4, e5⟩ := fl_same ho h.pend
    have hh : Holds (flT S).good (flT S).n x := by rw [e1]; exact h.holds.congr e2
    exact ⟨sp, fun b => T' b ∨ b = sp, fun b => D' b ∨ b = sp, rfl, ⟨T', D', _, k.dev, hr, hns, fun b h => h, fun b h => .inl h, fun b hb => hb.imp (dv_sub T' D' _ _ _ k.dev b) id, fun b hb => hb.elim (dv_lt T' D' _ _ _ k.dev b) fun e => by rw [e]; exact hr.lt, e1.trans h.hn, hn, fl_ok h.ok, by omega, hh, fun _ => e5.trans (h.hlive rfl).1, fun L pk => ⟨x, by simp, crash_calm (fun k _ => e3 k) hh L pk⟩, fun _ => ⟨e4, e3, rfl⟩, fun hd => by cases hd⟩, k.sam.mono fun b _ hb => h.tt b hb, fun b hb => hb.elim (fun hb => (k.t b hb).imp (h.tt b) id) fun e => .inr (by rw [e]; exact hge), fun b hb => hb.elim (fun hb => (k.d b hb).imp (h.dd b) id) fun e => .inr (by rw [e]; exact hge)⟩
  openCut := fun T D w dp n B x ⟨Td, Dd, S, h⟩ hn hB => by
    cases ho : opOk S with
    | true =>
      refine (open_yes Td Dd w dp B S h.dev h.ok x hB (by rw [h.hn]; exact hn) h.pend h.holds ho).mono ?_
      rintro e w' ⟨sp, T', D', rfl, k, hr, hns, hge⟩
      obtain ⟨e1, e2, e3, e4, e5⟩ := fl_same ho h.pend
      have hh : Holds (flT S).good (flT S).n x := by rw [e1]; exact h.holds.congr e2
      exact ⟨_, T', D', rfl, ⟨_, _, rfl⟩, ⟨T', D', _, k.dev, fun b h => h, fun b h => h, dv_sub T' D' _ _ _ k.dev, dv_lt T' D' _ _ _ k.dev, e1.trans h.hn, fl_ok h.ok, hh, e3, fun hl => by cases hl⟩, k.sam.mono fun b _ hb => h.tt b hb, fun b hb => (k.t b hb).imp (h.tt b) id, fun b hb => (k.d b hb).imp (h.dd b) id⟩
    | false =>
      refine (open_off Td Dd w dp B S h.dev h.ok x hB (by rw [h.hn]; exact hn) h.pend h.holds ho).mono ?_
      rintro e w' ⟨T', D', rfl, k⟩
      obtain ⟨e1, e2, e3, e4⟩ := opD_same S
      exact ⟨_, T', D', rfl, ⟨_, _, rfl⟩, ⟨T', D', _, k.dev, fun b h => h, fun b h => h, dv_sub T' D' _ _ _ k.dev, dv_lt T' D' _ _ _ k.dev, e1.trans h.hn, h.ok.op.more (by omega), by rw [e1, e2]; exact h.holds, fun k => by rw [e3]; exact h.pend k, fun hl => by cases hl⟩, k.sam.mono fun b _ hb => h.tt b hb, fun b hb => (k.t b hb).imp (h.tt b) id, fun b hb => (k.d b hb).imp (h.dd b) id⟩
  saveBig := fun T D w sp dp n B K x dead live vb b ⟨Td, Dd, S, h⟩ hB hb hl hr => save_big Td Dd w sp dp B S b vb x dead h.dev h.row h.no h.ok h.holds.n2 hb (by rw [h.hn]; exact hr)
  saveDead := fun T D w sp dp n B K x live vb b ⟨Td, Dd, S, h⟩ hB hb hl => by
    refine (save_off Td Dd w sp dp B S b vb x true h.dev h.row h.no h.ok hB (h.hdead rfl) h.holds (by rw [h.hn]; exact hl) (fun w2 k2 => hb w2 (k2.mono fun b _ hb => h.tt b (.inl hb)))).mono ?_
    rintro e w' ⟨T', D', rfl, k, hns, hr⟩
    obtain ⟨e1, e2, e3, e4⟩ := opD_same S
    exact ⟨rfl, save_at h k hns hr e1 (opD_cut S) (h.ok.op.more (by omega)) (by omega) (by rw [e1, e2]; exact h.holds) h.crash.op (fun hd => by cases hd) fun _ => opD_off (opOk_offF (h.hdead rfl))⟩
  saveYes := fun T D w sp dp n B x vb b ⟨Td, Dd, S, h⟩ hB hx hb hl => by
    refine (save_on Td Dd w sp dp B S b vb x false h.dev h.row h.no ⟨h.ok, hB, (h.on rfl).1, (h.on rfl).2.1, h.holds, by rw [h.hn]; exact hl, hx⟩ (fun w2 k2 => hb w2 (k2.mono fun b _ hb => h.tt b (.inl hb)))).mono ?_
    rintro e w' ⟨r, S', T', D', rfl, k, hns, hf, hr⟩
    rcases hf.ways with ⟨rfl, f1, f2, f3⟩ | ⟨rfl, f1, _⟩
    · exact ⟨rfl, save_at h k hns hr hf.n hf.cut hf.ok (by omega) f3 (fun L pk => ⟨_, by simp, crash_calm (fun k _ => f1 k) f3 L pk⟩) (fun _ => ⟨f2, f1, rfl⟩) fun hd => by cases hd⟩
    · rw [h.hlive rfl] at f1; cases f1
  saveCut := fun T D w sp dp n B x vb b ⟨Td, Dd, S, h⟩ hB hx hb hl => by
    refine (save_on Td Dd w sp dp B S b vb x false h.dev h.row h.no ⟨h.ok, hB, (h.on rfl).1, (h.on rfl).2.1, h.holds, by rw [h.hn]; exact hl, hx⟩ (fun w2 k2 => hb w2 (k2.mono fun b _ hb => h.tt b (.inl hb)))).mono ?_
    rintro e w' ⟨r, S', T', D', rfl, k, hns, hf, hr⟩
    rcases hf.ways with ⟨rfl, f1, f2, f3⟩ | ⟨rfl, f1, f2, f3, f4⟩
    · exact .inl ⟨rfl, save_at h k hns hr hf.n hf.cut hf.ok (by omega) f3 (fun L pk => ⟨_, by simp, crash_calm (fun k _ => f1 k) f3 L pk⟩) (fun _ => ⟨f2, f1, rfl⟩) fun hd => by cases hd⟩
    · exact .inr ⟨rfl, save_at h k hns hr hf.n hf.cut hf.ok (by omega) f3 f4 (fun hd => by cases hd) fun _ => f2⟩
  load := fun T D w sp dp n B K x dead live ⟨Td, Dd, S, h⟩ => by
    by_cases hx : x.2 = 0
    · rw [if_pos hx, if_pos hx]
      exact load_none Td Dd w sp dp B S x dead h.dev h.row h.ok h.bd h.pendOf h.holds hx
    · rw [if_neg hx, if_neg hx]
      exact load_some Td Dd w sp dp B S x dead h.dev h.row h.ok h.bd h.pendOf h.holds hx
  count := fun T D w sp dp n B K x dead live ⟨Td, Dd, S, h⟩ => count_any Td Dd w sp dp B S x dead h.dev h.row h.ok h.bd h.pendOf h.holds
  dead := fun T D w sp dp n B K x dead live ⟨Td, Dd, S, h⟩ => dead_any w sp dp dead h.row
  room := fun w n hn => (roomS_any n w hn).mono fun e w' ⟨h1, h2⟩ => ⟨h1, by rw [h2]; exact Below.refl _ _⟩
  saveN := fun w vb b hb _ => saveN_any w vb b hb
  loadN := fun w => loadN_any w
  countN := fun w => countN_any w
  deadN := fun w => deadN_any w
end Go.Proofs.Ytefabimolfcllaa

/- StoreCrash over a promised store. -/
namespace Go.Proofs.Ytefabimolfcllaa
open Go.RowKit Go.Deep
set_option linter.unusedSimpArgs false
set_option linter.unusedVariables false

section
variable {BAt : (Nat → Prop) → (Nat → Prop) → World → Nat → Nat → Nat → Ct → Bool → Prop} {SAt : (Nat → Prop) → (Nat → Prop) → World → Nat → Nat → Nat → Nat → List Ct → Ct → Bool → Bool → Prop} (A : StApi BAt SAt)
include A
set_option maxHeartbeats 4000000 in
set_option maxRecDepth 20000 in
theorem crash_o1 (w : World) (al : Option Addr) (nl cl : Nat) (c : Int) (ap : Option Addr) (np cp : Nat) (aq : Option Addr) (nq cq : Nat)  (h1 : (20 : Int) < (nl : Int)) : Calls Try.prog 4 #[.slice al nl cl, .int .i64 c, .slice ap np cp, .slice aq nq cq] w fun e w' => e = .returned (.bool true) ∧ Below w.heap.size w w' := by
  have HA := Lib.hid A
  have Bw0 := Below.refl w.heap.size w
  clear A
  go_enter Try.func4, Try.ntmps4
  go_wp2_with (first
    | (have hgo := Bw0; clear hgo
       go_at_call 9
       refine (awake16_api HA.out _).mono ?_
       rintro e w1 ⟨rfl, kk⟩
       have Bw1 := Bw0.trans (kk.mono Bw0.size)
       clear Bw0 kk))
  go_ret
  exact ⟨rfl, Bw1⟩
set_option maxHeartbeats 4000000 in
set_option maxRecDepth 20000 in
theorem crash_o2 (w : World) (al : Option Addr) (nl cl : Nat) (c : Int) (ap : Option Addr) (np cp : Nat) (aq : Option Addr) (nq cq : Nat) (h1 : ¬ (20 : Int) < (nl : Int)) (h2 : (40 : Int) < (np : Int)) : Calls Try.prog 4 #[.slice al nl cl, .int .i64 c, .slice ap np cp, .slice aq nq cq] w fun e w' => e = .returned (.bool true) ∧ Below w.heap.size w w' := by
  have HA := Lib.hid A
  have Bw0 := Below.refl w.heap.size w
  clear A
  go_enter Try.func4, Try.ntmps4
  go_wp2_with (first
    | (have hgo := Bw0; clear hgo
       go_at_call 9
       refine (awake16_api HA.out _).mono ?_
       rintro e w1 ⟨rfl, kk⟩
       have Bw1 := Bw0.trans (kk.mono Bw0.size)
       clear Bw0 kk))
  go_ret
  exact ⟨rfl, Bw1⟩
set_option maxHeartbeats 4000000 in
set_option maxRecDepth 20000 in
theorem crash_o3 (w : World) (al : Option Addr) (nl cl : Nat) (c : Int) (ap : Option Addr) (np cp : Nat) (aq : Option Addr) (nq cq : Nat) (h1 : ¬ (20 : Int) < (nl : Int)) (h2 : ¬ (40 : Int) < (np : Int)) (h3 : (4 : Int) < (nq : Int)) : Calls Try.prog 4 #[.slice al nl cl, .int .i64 c, .slice ap np cp, .slice aq nq cq] w fun e w' => e = .returned (.bool true) ∧ Below w.heap.size w w' := by
  have HA := Lib.hid A
  have Bw0 := Below.refl w.heap.size w
  clear A
  go_enter Try.func4, Try.ntmps4
  go_wp2_with (first
    | (have hgo := Bw0; clear hgo
       go_at_call 9
       refine (awake16_api HA.out _).mono ?_
       rintro e w1 ⟨rfl, kk⟩
       have Bw1 := Bw0.trans (kk.mono Bw0.size)
       clear Bw0 kk))
  go_ret
  exact ⟨rfl, Bw1⟩
set_option maxHeartbeats 4000000 in
set_option maxRecDepth 20000 in
theorem crash_o4 (w : World) (al : Option Addr) (nl cl : Nat) (c : Int) (ap : Option Addr) (np cp : Nat) (aq : Option Addr) (nq cq : Nat) (h1 : ¬ (20 : Int) < (nl : Int)) (h2 : ¬ (40 : Int) < (np : Int)) (h3 : ¬ (4 : Int) < (nq : Int)) (h4 : c < 0) : Calls Try.prog 4 #[.slice al nl cl, .int .i64 c, .slice ap np cp, .slice aq nq cq] w fun e w' => e = .returned (.bool true) ∧ Below w.heap.size w w' := by
  have HA := Lib.hid A
  have Bw0 := Below.refl w.heap.size w
  clear A
  go_enter Try.func4, Try.ntmps4
  go_wp2_with (first
    | (have hgo := Bw0; clear hgo
       go_at_call 9
       refine (awake16_api HA.out _).mono ?_
       rintro e w1 ⟨rfl, kk⟩
       have Bw1 := Bw0.trans (kk.mono Bw0.size)
       clear Bw0 kk))
  go_ret
  exact ⟨rfl, Bw1⟩
set_option maxHeartbeats 4000000 in
set_option maxRecDepth 20000 in
theorem crash_o5 (w : World) (al : Option Addr) (nl cl : Nat) (c : Int) (ap : Option Addr) (np cp : Nat) (aq : Option Addr) (nq cq : Nat) (h1 : ¬ (20 : Int) < (nl : Int)) (h2 : ¬ (40 : Int) < (np : Int)) (h3 : ¬ (4 : Int) < (nq : Int)) (h4 : ¬ c < 0) (h5 : 5000 < c) : Calls Try.prog 4 #[.slice al nl cl, .int .i64 c, .slice ap np cp, .slice aq nq cq] w fun e w' => e = .returned (.bool true) ∧ Below w.heap.size w w' := by
  have HA := Lib.hid A
  have Bw0 := Below.refl w.heap.size w
  clear A
  go_enter Try.func4, Try.ntmps4
  go_wp2_with (first
    | (have hgo := Bw0; clear hgo
       go_at_call 9
       refine (awake16_api HA.out _).mono ?_
       rintro e w1 ⟨rfl, kk⟩
       have Bw1 := Bw0.trans (kk.mono Bw0.size)
       clear Bw0 kk))
  go_ret
  exact ⟨rfl, Bw1⟩
set_option maxHeartbeats 12000000 in
set_option maxRecDepth 20000 in
theorem crash_in (w : World) (vl vp vc : Value) (L P C : List Int) (c : Int) (hL : NumsK .i64 w vl L) (hP : NumsK .i64 w vp P) (hC : NumsK .i64 w vc C) (hl : L.length ≤ 20) (hp : P.length ≤ 40) (hc : C.length ≤ 4) (h4 : ¬ c < 0) (h5 : ¬ 5000 < c) : Calls Try.prog 4 #[vl, .int .i64 c, vp, vc] w fun e w' => e = .returned (.bool true) ∧ Below w.heap.size w w' := by
  have HA := Lib.hid A
  have HGS : Hid (∀ wq : World, Below w.heap.size w wq → w.heap.size ≤ wq.heap.size) := Lib.hid fun wq h => h.size
  have Bw0 := Below.refl w.heap.size w
  have HPV := Lib.hid hP.vs
  have HSP := Lib.hid hL
  have HCP := Lib.hid hC
  obtain ⟨al, cl, rfl, x1, x2, x3, x4, x5⟩ := hL
  obtain ⟨ap, cp, rfl, y1, y2, y3, y4, y5⟩ := hP
  obtain ⟨aq, cq, rfl, z1, z2, z3, z4, z5⟩ := hC
  have HWF := Lib.hid x4
  have HWC := Lib.hid z4
  clear x1 x2 x3 x4 x5 y1 y2 y3 y4 y5 z1 z2 z3 z4 z5
  generalize hnl : L.length = N at *
  generalize hnp : P.length = NP at *
  generalize hnc : C.length = NC at *
  have HNL := Lib.hid hnl
  have HNC := Lib.hid hnc
  have g1 : ¬ (20 : Int) < (N : Int) := by omega
  have g2 : ¬ (40 : Int) < (NP : Int) := by omega
  have g3 : ¬ (4 : Int) < (NC : Int) := by omega
  have HBD := Lib.hid (And.intro hl (And.intro hp hc))
  clear A hl hp hc hnl hnp hnc
  go_enter Try.func4, Try.ntmps4
  go_wp2_with (first
    | (have hgo := Bw0; clear hgo
       go_at_call 10
       refine (fresh16_any HA.out _).mono ?_
       rintro e w1 ⟨dp, sp, T, D, rfl, hs, hd, kk⟩
       have HS1 := Lib.hid hs
       have HD1 : Hid (∀ b, D b → w.heap.size ≤ b) := Lib.hid fun b h => Nat.le_trans Bw0.size (hd b h)
       have Bw1 := zbt HGS Bw0 kk
       clear Bw0 kk hs hd)
    | (have hgo := Bw1; clear hgo
       go_at_call 19
       refine (HA.out.cutS T D _ sp dp 256 1000 _ _ false true c HS1.out (by omega)).mono ?_
       rintro e w2 ⟨rfl, T2, D2, hs, hg⟩
       have HS2 := Lib.hid hs
       have HD2 : Hid (∀ b, D2 b → w.heap.size ≤ b) := Lib.hid fun b h => (hg.d b h).elim (HD1.out b) fun h => Nat.le_trans Bw1.size h
       have Bw2 := (hg.bel Bw1 (fun b h => HD1.out b (HA.out.ssub _ _ _ _ _ _ _ _ _ _ _ HS1.out b h))).1
       clear Bw1 hs hg HS1))
  go_loopw [12, 13, 14, 15, 16] (fun ov nw mv nv iv wr => ∃ (i m n B : Nat) (T D : Nat → Prop) (lo ln : List UInt8) (K : List Ct) (dd : Bool), i ≤ N ∧ iv = .int .i64 (i : Int) ∧ mv = .int .i64 (m : Int) ∧ nv = .int .i64 (n : Int) ∧ m ≤ i ∧ B ≤ 2000 * i + 1000 ∧ SAt T D wr sp dp 256 B K (lo, m) dd false ∧ K = (if dd = true then [(lo, m), (ln, n)] else [(lo, m)]) ∧ BsK T wr ov lo ∧ BsK T wr nw ln ∧ (∀ b, D b → w.heap.size ≤ b) ∧ Below w.heap.size w wr) (fun _ _ _ _ iv _ => N - (intOf iv).toNat)
  case atStart => exact ⟨0, 0, 0, 1000, T2, D2, [], [], _, false, Nat.zero_le _, rfl, rfl, rfl, Nat.le_refl _, Nat.le_refl _, HS2.out, rfl, BsK.nil _ _, BsK.nil _ _, HD2.out, Bw2⟩
  case round =>
    clear Bw2 HS2 HD2 T D HD1 T2 D2
    obtain ⟨i, m, n, B, T, D, lo, ln, K, dd, hi, rfl, rfl, rfl, hmi, hB, hs, hK, f_o, f_n, hD, Bw0⟩ := hrel
    have HBB : Hid (B ≤ 50000) := Lib.hid (by have := HBD.out; omega)
    by_cases hlt : i < N
    · have hiI : 0 ≤ (i : Int) ∧ (i : Int) < (N : Int) := by omega
      cases dd
      · obtain rfl : K = [(lo, m)] := by simpa using hK
        have hil : i < L.length := by rw [HNL.out]; exact hlt
        obtain ⟨bb, off, cap', he, _, _, hbl, hit⟩ := HSP.out.open_cons (by rw [HNL.out]; omega)
        rw [HNL.out] at he
        cases he
        have hit' := hit i hil
        have HXB := Lib.hid (bd_i64 (HWF.out _ (List.getElem_mem hil)))
        generalize L[i] = X at *
        have HIT := Lib.hid hit'
        have HBL := Lib.hid hbl
        obtain ⟨r, hr⟩ : ∃ r : Nat, X % 3000 = (r : Int) := ⟨(X % 3000).toNat, by omega⟩
        have HR : Hid (X % 3000 = (r : Int) ∧ r < 3000) := Lib.hid (by omega)
        have HS := Lib.hid hs
        have HD := Lib.hid hD
        have HT : Hid (∀ b, T b → w.heap.size ≤ b) := Lib.hid fun b h => hD b (HA.out.ssub _ _ _ _ _ _ _ _ _ _ _ hs b h)
        have HI := Lib.hid (And.intro hlt (And.intro hmi hB))
        obtain ⟨i1, hi1⟩ := nat_var (i + 1)
        have hwi : IntKind.i64.wrap ((i : Int) + 1) = (i1 : Int) := by rw [IntWalk.i64_in _ (by have := HBD.out; omega)]; omega
        have HI1 := Lib.hid hi1
        obtain ⟨m1, hm1⟩ := nat_var (m + 1)
        have hwm : IntKind.i64.wrap ((m : Int) + 1) = (m1 : Int) := by rw [IntWalk.i64_in _ (by have := HBD.out; omega)]; omega
        have HM1 := Lib.hid hm1
        have FO := Lib.hid f_o
        clear hi hlt hil hit hit' hbl hi1 hm1 hs hD hr hmi hB f_o f_n hK
        go_wp2_with (first
          | (have hgo := Bw0; clear hgo
             go_at_call 18
             refine (HA.out.dead T D _ sp dp 256 B _ _ false false HS.out).mono ?_
             rintro e w1 ⟨rfl, kk⟩
             have HS1 := Lib.hid (HA.out.sstay T D (fun _ => False) _ _ _ _ _ _ _ _ _ _ HS.out (Sam.of_below kk) (fun _ h => h.elim))
             have FO1 := Lib.hid (FO.out.step (Sam.of_below kk))
             have Bw1 := zbt HGS Bw0 kk
             have hc0 := (Bw1.cell (p := ⟨bb, off + i, none⟩) HBL.out).trans HIT.out
             have HTL : Hid (∀ b, T b → b < w1.heap.size) := Lib.hid fun b h => HA.out.slt _ _ _ _ _ _ _ _ _ _ _ HS1.out b (HA.out.ssub _ _ _ _ _ _ _ _ _ _ _ HS1.out b h)
             clear Bw0 kk HS FO)
          | (have hgo := HXB; clear hgo
             go_at_call 12
             refine (round_any X 3000 _ HXB.out.1 HXB.out.2 (by decide) (by decide)).mono ?_
             rintro e wx ⟨rfl, hx⟩
             obtain rfl := hx.symm
             rw [HR.out.1]
             clear HXB hc0)
          | (have hgo := Bw1; clear hgo
             go_at_call 11
             refine (block2_any _ r (i : Int) (by have := HR.out; omega)).mono ?_
             rintro e w2 ⟨v_b, rfl, o_b, kk⟩
             have HS2 := Lib.hid (HA.out.sstay T D (fun _ => False) _ _ _ _ _ _ _ _ _ _ HS1.out (Sam.of_below kk) (fun _ h => h.elim))
             have HFB := Lib.hid (BsK.own (M := T) o_b HTL.out)
             have FO2 := Lib.hid (FO1.out.step (Sam.of_below kk))
             have Bw2 := zbt HGS Bw1 kk
             clear Bw1 kk o_b HS1 FO1)
          | (have hgo := Bw2; clear hgo
             go_at_call 13
             refine (HA.out.saveCut T D _ sp dp 256 B (lo, m) _ (blkL (i : Int) r) HS2.out (by have := HBB.out; omega) (by show m ≤ 90000; have := HI.out; have := HBD.out; omega) HFB.out (by rw [blkL_len, room256]; have := HR.out; omega)).mono ?_
             rintro e w3 h3
             rcases h3 with ⟨rfl, T3, D3, hs, hg⟩ | ⟨rfl, T3, D3, hs, hg⟩
             all_goals (have HS3 := Lib.hid hs; have FB3 := Lib.hid (HFB.out.wide hg.sam hg.t); have FO3 := Lib.hid (FO2.out.wide hg.sam hg.t); have HD3 : Hid (∀ b, D3 b → w.heap.size ≤ b) := Lib.hid fun b h => (hg.d b h).elim (HD.out b) fun h => Nat.le_trans Bw2.size h; have HT3 := Lib.hid (hg.bel Bw2 HT.out).2; have Bw3 := (hg.bel Bw2 HT.out).1; clear Bw2 hs hg HS2 HFB FO2))
          | (have hgo := Bw3; clear hgo
             go_at_call 18
             refine (HA.out.dead T3 D3 _ sp dp 256 _ _ _ true false HS3.out).mono ?_
             rintro e w4 ⟨rfl, kk⟩
             have HS4 := Lib.hid (HA.out.sstay T3 D3 (fun _ => False) _ _ _ _ _ _ _ _ _ _ HS3.out (Sam.of_below kk) (fun _ h => h.elim))
             have FO4 := Lib.hid (FO3.out.step (Sam.of_below kk))
             have FB4 := Lib.hid (FB3.out.step (Sam.of_below kk))
             have Bw4 := zbt HGS Bw3 kk
             clear Bw3 kk HS3 FO3 FB3)
          | (have hgo := Bw4; clear hgo
             go_at_call 13
             refine (HA.out.saveDead T3 D3 _ sp dp 256 _ _ (lo, m) false _ (blkL (i : Int) r) HS4.out (by have := HBB.out; omega) FB4.out (by rw [blkL_len, room256]; have := HR.out; omega)).mono ?_
             rintro e w5 ⟨rfl, T5, D5, hs, hg⟩
             have HS5 := Lib.hid hs
             have FO5 := Lib.hid (FO4.out.wide hg.sam hg.t)
             have FB5 := Lib.hid (FB4.out.wide hg.sam hg.t)
             have HD5 : Hid (∀ b, D5 b → w.heap.size ≤ b) := Lib.hid fun b h => (hg.d b h).elim (HD3.out b) fun h => Nat.le_trans Bw4.size h
             have Bw5 := (hg.bel Bw4 HT3.out).1
             clear Bw4 hs hg HS4 FO4 FB4))
        · go_roundw
          case rel => exact ⟨i + 1, m + 1, m + 1, _, T3, D3, _, _, _, false, HI.out.1, by first | rfl | (rw [HI1.out]) | simp, by first | rfl | (rw [HM1.out]) | simp, by first | rfl | (rw [HM1.out]) | simp, by have := HI.out; omega, by have := HI.out; omega, HS3.out, rfl, FB3.out, FB3.out, HD3.out, Bw3⟩
          case measure => (have := HI1.out; have := HI.out; simp [intOf]; try omega)
        · go_roundw
          case rel => exact ⟨i + 1, m, m + 1, _, T5, D5, _, _, _, true, HI.out.1, by first | rfl | (rw [HI1.out]) | simp, rfl, by first | rfl | (rw [HM1.out]) | simp, by have := HI.out; omega, by have := HI.out; omega, HS5.out, rfl, FO5.out, FB5.out, HD5.out, Bw5⟩
          case measure => (have := HI1.out; have := HI.out; simp [intOf]; try omega)
      · obtain rfl : K = [(lo, m), (ln, n)] := by simpa using hK
        have HS := Lib.hid hs
        have FO := Lib.hid f_o
        have FN := Lib.hid f_n
        clear hi hlt hmi hB hs hD f_o f_n hK
        go_wp2_with (first
          | (have hgo := Bw0; clear hgo
             go_at_call 18
             refine (HA.out.dead T D _ sp dp 256 B _ _ true false HS.out).mono ?_
             rintro e wa ⟨rfl, kk⟩
             have Ha := Lib.hid (HA.out.sstay T D (fun _ => False) _ _ _ _ _ _ _ _ _ _ HS.out (Sam.of_below kk) (fun _ h => h.elim))
             have FOa := Lib.hid (FO.out.step (Sam.of_below kk))
             have FNa := Lib.hid (FN.out.step (Sam.of_below kk))
             have Bwa := zbt HGS Bw0 kk
             clear Bw0 kk HS FO FN)
          | (have hgo := Bwa; clear hgo
             go_at_call 18
             refine (HA.out.dead T D _ sp dp 256 B _ _ true false Ha.out).mono ?_
             rintro e wb ⟨rfl, kk⟩
             have Hb := Lib.hid (HA.out.sstay T D (fun _ => False) _ _ _ _ _ _ _ _ _ _ Ha.out (Sam.of_below kk) (fun _ h => h.elim))
             have FOb := Lib.hid (FOa.out.step (Sam.of_below kk))
             have FNb := Lib.hid (FNa.out.step (Sam.of_below kk))
             have Bwb := zbt HGS Bwa kk
             clear Bwa kk Ha FOa FNa)
          | (have hgo := Bwb; clear hgo
             go_at_call 17
             refine (HA.out.crashS T D _ sp dp 256 B _ _ true false NP _ _ Hb.out (by have := HBB.out; omega) (HPV.out.1.bel Bwb) (by have := HBD.out; omega) HPV.out.2).mono ?_
             rintro e w6 ⟨d6, T6, D6, z, rfl, hz, hb, hm⟩
             have HZ : Hid (holdB z lo m = true ∨ (holdB z lo m = false ∧ holdB z ln n = true)) := Lib.hid (by
               rcases (by simpa using hz : z = (lo, m) ∨ z = (ln, n)) with rfl | rfl
               · exact .inl (holdB_self _ _)
               · cases hx : holdB (ln, n) lo m
                 · exact .inr ⟨rfl, holdB_self _ _⟩
                 · exact .inl rfl)
             have HB6 := Lib.hid hb
             have HM6 := Lib.hid hm.t
             have Bk6 := hm.bel
             have HW5 := Lib.hid Bwb
             have FO5 := Lib.hid FOb.out.bs
             have FN5 := Lib.hid FNb.out.bs
             clear Bwb hz hb hm Hb FOb FNb))
        go_loopw [19, 20] (fun cv jv wr => ∃ (j dq : Nat) (Tq Dq : Nat → Prop), j ≤ NC ∧ jv = .int .i64 (j : Int) ∧ cv = .pointer (some ⟨dq, 0, none⟩) ∧ BAt Tq Dq wr dq 256 0 z true ∧ (∀ b, Tq b → wb.heap.size ≤ b) ∧ Below wb.heap.size wb wr) (fun _ jv _ => NC - (intOf jv).toNat)
        case atStart => exact ⟨0, d6, T6, D6, Nat.zero_le _, rfl, rfl, HB6.out, HM6.out, Bk6⟩
        case round =>
          clear Bk6 HB6 HM6 T6 D6
          obtain ⟨j, dq, Tq, Dq, hj, rfl, rfl, hb, ht, Bk0⟩ := hrel
          have HG5 : Hid (∀ wq : World, Below wb.heap.size wb wq → wb.heap.size ≤ wq.heap.size) := Lib.hid fun wq h => h.size
          by_cases hjt : j < NC
          · have hjI : 0 ≤ (j : Int) ∧ (j : Int) < (NC : Int) := by omega
            have hjl : j < C.length := by rw [HNC.out]; exact hjt
            obtain ⟨b2, off2, cap2, he, _, _, hbl, hit⟩ := HCP.out.open_cons (by rw [HNC.out]; omega)
            rw [HNC.out] at he
            cases he
            have hc0 := ((HW5.out.trans (Bk0.mono HW5.out.size)).cell (p := ⟨b2, off2 + j, none⟩) hbl).trans (hit j hjl)
            have HXB := Lib.hid (bd_i64 (HWC.out _ (List.getElem_mem hjl)))
            generalize C[j] = X at *
            have HB := Lib.hid hb
            have HTQ := Lib.hid ht
            have HJ := Lib.hid hjt
            obtain ⟨j1, hj1⟩ := nat_var (j + 1)
            have hwj : IntKind.i64.wrap ((j : Int) + 1) = (j1 : Int) := by rw [IntWalk.i64_in _ (by have := HBD.out; omega)]; omega
            have HJ1 := Lib.hid hj1
            clear hj hjt hjl hit hbl hj1 hb ht
            go_wp2_with (first
              | (have hgo := HXB; clear hgo
                 go_at_call 12
                 refine (round_any X 50 _ HXB.out.1 HXB.out.2 (by decide) (by decide)).mono ?_
                 rintro e wx ⟨rfl, hx⟩
                 obtain rfl := hx.symm
                 clear HXB hc0)
              | (have hgo := Bk0; clear hgo
                 go_at_call 19
                 refine (HA.out.cutB Tq Dq _ dq 256 0 z true _ HB.out (by omega)).mono ?_
                 rintro e w7 ⟨rfl, T7, D7, hb, hg⟩
                 have HB7 := Lib.hid hb
                 have HT7 := Lib.hid (hg.bel Bk0 HTQ.out).2
                 have Bk7 := (hg.bel Bk0 HTQ.out).1
                 clear Bk0 hb hg HB)
              | (have hgo := Bk7; clear hgo
                 go_at_call 16
                 refine (HA.out.openCut T7 D7 _ dq 256 0 z HB7.out (by decide) (by decide)).mono ?_
                 rintro e w8 ⟨v8, T8, D8, rfl, ⟨va, vb, rfl⟩, hb, hg⟩
                 have HB8 := Lib.hid hb
                 have HT8 := Lib.hid (hg.bel Bk7 HT7.out).2
                 have Bk8 := (hg.bel Bk7 HT7.out).1
                 clear Bk7 hb hg HB7)
              | (have hgo := Bk8; clear hgo
                 go_at_call 17
                 refine (HA.out.crashB T8 D8 _ dq 256 _ z false NP _ _ HB8.out (by decide) (HPV.out.1.bel (HW5.out.trans (Bk8.mono HW5.out.size))) (by have := HBD.out; omega) HPV.out.2).mono ?_
                 rintro e w9 ⟨d9, T9, D9, rfl, hb, hm⟩
                 have HB9 := Lib.hid hb
                 have HT9 : Hid (∀ b, T9 b → wb.heap.size ≤ b) := Lib.hid fun b h => Nat.le_trans Bk8.size (hm.t b h)
                 have Bk9 := zbt HG5 Bk8 hm.bel
                 clear Bk8 hb hm HB8))
            go_roundw
            case rel => exact ⟨j + 1, d9, T9, D9, HJ.out, by first | rfl | (rw [HJ1.out]) | simp, rfl, HB9.out, HT9.out, Bk9⟩
            case measure => (have := HJ1.out; have := HJ.out; simp [intOf]; try omega)
          · obtain rfl : j = NC := by omega
            have hjI : ¬ (j : Int) < (j : Int) := by omega
            obtain ⟨zl, zn⟩ := z
            have HB := Lib.hid hb
            have HTQ := Lib.hid ht
            clear hj hjt hb ht
            go_wp2_with (first
              | (have hgo := Bk0; clear hgo
                 go_at_call 16
                 refine (HA.out.openYes Tq Dq _ dq 256 0 _ HB.out (by decide) (by decide)).mono ?_
                 rintro e w1 ⟨s1, T1, D1, rfl, hs, hg⟩
                 have HS1 := Lib.hid hs
                 have Bk1 := (hg.bel Bk0 HTQ.out).1
                 clear Bk0 hs hg HB)
              | (have hgo := Bk1; clear hgo
                 go_at_call 15
                 refine (holds_any HA.out T1 D1 _ s1 dq 256 _ _ _ false true _ lo m HS1.out (FO5.out.below Bk1 (Nat.le_refl _))).mono ?_
                 rintro e w2 ⟨rfl, kk⟩
                 have HS2 := Lib.hid (HA.out.sstay T1 D1 (fun _ => False) _ _ _ _ _ _ _ _ _ _ HS1.out (Sam.of_below kk) (fun _ h => h.elim))
                 have Bk2 := zbt HG5 Bk1 kk
                 clear Bk1 kk HS1
                 rcases HZ.out with h | ⟨h, h2⟩
                 all_goals rw [h]
                 all_goals clear h)
              | (have hgo := h2; clear hgo
                 have hgo := Bk2; clear hgo
                 go_at_call 15
                 refine (holds_any HA.out T1 D1 _ s1 dq 256 _ _ _ false true _ ln n HS2.out (FN5.out.below Bk2 (Nat.le_refl _))).mono ?_
                 rintro e w2b ⟨rfl, kk⟩
                 replace HS2 := Lib.hid (HA.out.sstay T1 D1 (fun _ => False) _ _ _ _ _ _ _ _ _ _ HS2.out (Sam.of_below kk) (fun _ h => h.elim))
                 replace Bk2 := zbt HG5 Bk2 kk
                 rw [h2]
                 clear kk h2)
              | (have hgo := Bk2; clear hgo
                 go_at_call 20
                 refine (HA.out.load T1 D1 _ s1 dq 256 _ _ _ false true HS2.out).mono ?_
                 rintro e w3 ⟨v_x, rfl, o_x, kk⟩
                 have HS3 := Lib.hid (HA.out.sstay T1 D1 (fun _ => False) _ _ _ _ _ _ _ _ _ _ HS2.out (Sam.of_below kk) (fun _ h => h.elim))
                 have FX3 := Lib.hid o_x.bs
                 have Bk3 := zbt HG5 Bk2 kk
                 clear Bk2 kk HS2 o_x)
              | (have hgo := Bk3; clear hgo
                 go_at_call 17
                 refine (HA.out.crashS T1 D1 _ s1 dq 256 _ _ _ false true 0 (fun _ => 0) _ HS3.out (by decide) (vs_nil _) (by decide) (fun i h => absurd h (Nat.not_lt_zero _))).mono ?_
                 rintro e w4 ⟨d4, T4, D4, z4, rfl, hz, hb, hm⟩
                 obtain rfl : z4 = (zl, zn) := by simpa using hz
                 have HB4 := Lib.hid hb
                 have HM4 := Lib.hid hm.t
                 have HS4 := Lib.hid (HA.out.sstay T1 D1 (fun _ => False) _ _ _ _ _ _ _ _ _ _ HS3.out (Sam.of_below hm.bel) (fun _ h => h.elim))
                 have HSL : Hid (∀ b, D1 b → b < w3.heap.size) := Lib.hid (HA.out.slt _ _ _ _ _ _ _ _ _ _ _ HS3.out)
                 have LVB := Lib.hid (bs_in FX3.out)
                 have FX4 := Lib.hid (FX3.out.below hm.bel (Nat.le_refl _))
                 have HB3 : Hid (wb.heap.size ≤ w3.heap.size) := Lib.hid Bk3.size
                 have Bk4 := zbt HG5 Bk3 hm.bel
                 clear Bk3 hz hb hm HS3 FX3)
              | (have hgo := Bk4; clear hgo
                 go_at_call 16
                 refine (HA.out.openYes T4 D4 _ d4 256 0 _ HB4.out (by decide) (by decide)).mono ?_
                 rintro e w5 ⟨s5, T5, D5, rfl, hs, hg⟩
                 have HS5 := Lib.hid hs
                 have HSO := Lib.hid (HA.out.sstay T1 D1 T4 _ _ _ _ _ _ _ _ _ _ HS4.out hg.sam (fun b h hd => by have a := HM4.out b h; have c := HSL.out b hd; omega))
                 have FX5 := Lib.hid (bs_sam FX4.out hg.sam (fun b h hb => by have a := HM4.out b h; have c := LVB.out b hb; omega))
                 have Bk5 := (hg.bel Bk4 (fun b h => Nat.le_trans HB3.out (HM4.out b h))).1
                 clear Bk4 hs hg HB4 HS4 FX4)
              | (have hgo := Bk5; clear hgo
                 go_at_call 21
                 with_reducible refine (HA.out.count T5 D5 _ s5 d4 256 _ _ _ false true HS5.out).mono ?_
                 rintro e wc ⟨rfl, kk⟩
                 replace HS5 := Lib.hid (HA.out.sstay T5 D5 (fun _ => False) _ _ _ _ _ _ _ _ _ _ HS5.out (Sam.of_below kk) (fun _ h => h.elim))
                 replace HSO := Lib.hid (HA.out.sstay T1 D1 (fun _ => False) _ _ _ _ _ _ _ _ _ _ HSO.out (Sam.of_below kk) (fun _ h => h.elim))
                 replace FX5 := Lib.hid (FX5.out.below kk (Nat.le_refl _))
                 replace Bk5 := zbt HG5 Bk5 kk
                 clear kk)
              | (have hgo := Bk5; clear hgo
                 go_at_call 21
                 with_reducible refine (HA.out.count T1 D1 _ s1 dq 256 _ _ _ false true HSO.out).mono ?_
                 rintro e wc ⟨rfl, kk⟩
                 replace HS5 := Lib.hid (HA.out.sstay T5 D5 (fun _ => False) _ _ _ _ _ _ _ _ _ _ HS5.out (Sam.of_below kk) (fun _ h => h.elim))
                 replace HSO := Lib.hid (HA.out.sstay T1 D1 (fun _ => False) _ _ _ _ _ _ _ _ _ _ HSO.out (Sam.of_below kk) (fun _ h => h.elim))
                 replace FX5 := Lib.hid (FX5.out.below kk (Nat.le_refl _))
                 replace Bk5 := zbt HG5 Bk5 kk
                 clear kk)
              | (have hgo := Bk5; clear hgo
                 go_at_call 15
                 have hz0 : zn ≠ 0 := by omega
                 refine (holds_any HA.out T5 D5 _ s5 d4 256 _ _ _ false true _ zl zn HS5.out (by have h := FX5.out; simpa [hz0] using h)).mono ?_
                 rintro e wh ⟨rfl, kk⟩
                 rw [holdB_self]
                 replace HS5 := Lib.hid (HA.out.sstay T5 D5 (fun _ => False) _ _ _ _ _ _ _ _ _ _ HS5.out (Sam.of_below kk) (fun _ h => h.elim))
                 replace Bk5 := zbt HG5 Bk5 kk
                 clear kk)
              | (have hgo := Bk5; clear hgo
                 go_at_call 9
                 refine (awake16_api HA.out _).mono ?_
                 rintro e w9 ⟨rfl, kk⟩
                 have Bk9 := Bk5.trans (kk.mono Bk5.size)
                 clear Bk5 kk))
            all_goals (go_ret; exact ⟨rfl, HW5.out.trans (Bk9.mono HW5.out.size)⟩)
    · obtain rfl : i = N := by omega
      have hiI : ¬ (i : Int) < (i : Int) := by omega
      cases dd
      · obtain rfl : K = [(lo, m)] := by simpa using hK
        have HS := Lib.hid hs
        have FO := Lib.hid f_o
        have FN := Lib.hid f_n
        clear hi hlt hmi hB hs hD f_o f_n hK
        go_wp2_with (first
          | (have hgo := Bw0; clear hgo
             go_at_call 18
             refine (HA.out.dead T D _ sp dp 256 B _ _ false false HS.out).mono ?_
             rintro e wb ⟨rfl, kk⟩
             have Hb := Lib.hid (HA.out.sstay T D (fun _ => False) _ _ _ _ _ _ _ _ _ _ HS.out (Sam.of_below kk) (fun _ h => h.elim))
             have FOb := Lib.hid (FO.out.step (Sam.of_below kk))
             have FNb := Lib.hid (FN.out.step (Sam.of_below kk))
             have Bwb := zbt HGS Bw0 kk
             clear Bw0 kk HS FO FN)
          | (have hgo := Bwb; clear hgo
             go_at_call 17
             refine (HA.out.crashS T D _ sp dp 256 B _ _ false false NP _ _ Hb.out (by have := HBB.out; omega) (HPV.out.1.bel Bwb) (by have := HBD.out; omega) HPV.out.2).mono ?_
             rintro e w6 ⟨d6, T6, D6, z, rfl, hz, hb, hm⟩
             have HZ : Hid (holdB z lo m = true) := Lib.hid (by
               obtain rfl : z = (lo, m) := by simpa using hz
               exact holdB_self _ _)
             have HB6 := Lib.hid hb
             have HM6 := Lib.hid hm.t
             have Bk6 := hm.bel
             have HW5 := Lib.hid Bwb
             have FO5 := Lib.hid FOb.out.bs
             have FN5 := Lib.hid FNb.out.bs
             clear Bwb hz hb hm Hb FOb FNb))
        go_loopw [19, 20] (fun cv jv wr => ∃ (j dq : Nat) (Tq Dq : Nat → Prop), j ≤ NC ∧ jv = .int .i64 (j : Int) ∧ cv = .pointer (some ⟨dq, 0, none⟩) ∧ BAt Tq Dq wr dq 256 0 z true ∧ (∀ b, Tq b → wb.heap.size ≤ b) ∧ Below wb.heap.size wb wr) (fun _ jv _ => NC - (intOf jv).toNat)
        case atStart => exact ⟨0, d6, T6, D6, Nat.zero_le _, rfl, rfl, HB6.out, HM6.out, Bk6⟩
        case round =>
          clear Bk6 HB6 HM6 T6 D6
          obtain ⟨j, dq, Tq, Dq, hj, rfl, rfl, hb, ht, Bk0⟩ := hrel
          have HG5 : Hid (∀ wq : World, Below wb.heap.size wb wq → wb.heap.size ≤ wq.heap.size) := Lib.hid fun wq h => h.size
          by_cases hjt : j < NC
          · have hjI : 0 ≤ (j : Int) ∧ (j : Int) < (NC : Int) := by omega
            have hjl : j < C.length := by rw [HNC.out]; exact hjt
            obtain ⟨b2, off2, cap2, he, _, _, hbl, hit⟩ := HCP.out.open_cons (by rw [HNC.out]; omega)
            rw [HNC.out] at he
            cases he
            have hc0 := ((HW5.out.trans (Bk0.mono HW5.out.size)).cell (p := ⟨b2, off2 + j, none⟩) hbl).trans (hit j hjl)
            have HXB := Lib.hid (bd_i64 (HWC.out _ (List.getElem_mem hjl)))
            generalize C[j] = X at *
            have HB := Lib.hid hb
            have HTQ := Lib.hid ht
            have HJ := Lib.hid hjt
            obtain ⟨j1, hj1⟩ := nat_var (j + 1)
            have hwj : IntKind.i64.wrap ((j : Int) + 1) = (j1 : Int) := by rw [IntWalk.i64_in _ (by have := HBD.out; omega)]; omega
            have HJ1 := Lib.hid hj1
            clear hj hjt hjl hit hbl hj1 hb ht
            go_wp2_with (first
              | (have hgo := HXB; clear hgo
                 go_at_call 12
                 refine (round_any X 50 _ HXB.out.1 HXB.out.2 (by decide) (by decide)).mono ?_
                 rintro e wx ⟨rfl, hx⟩
                 obtain rfl := hx.symm
                 clear HXB hc0)
              | (have hgo := Bk0; clear hgo
                 go_at_call 19
                 refine (HA.out.cutB Tq Dq _ dq 256 0 z true _ HB.out (by omega)).mono ?_
                 rintro e w7 ⟨rfl, T7, D7, hb, hg⟩
                 have HB7 := Lib.hid hb
                 have HT7 := Lib.hid (hg.bel Bk0 HTQ.out).2
                 have Bk7 := (hg.bel Bk0 HTQ.out).1
                 clear Bk0 hb hg HB)
              | (have hgo := Bk7; clear hgo
                 go_at_call 16
                 refine (HA.out.openCut T7 D7 _ dq 256 0 z HB7.out (by decide) (by decide)).mono ?_
                 rintro e w8 ⟨v8, T8, D8, rfl, ⟨va, vb, rfl⟩, hb, hg⟩
                 have HB8 := Lib.hid hb
                 have HT8 := Lib.hid (hg.bel Bk7 HT7.out).2
                 have Bk8 := (hg.bel Bk7 HT7.out).1
                 clear Bk7 hb hg HB7)
              | (have hgo := Bk8; clear hgo
                 go_at_call 17
                 refine (HA.out.crashB T8 D8 _ dq 256 _ z false NP _ _ HB8.out (by decide) (HPV.out.1.bel (HW5.out.trans (Bk8.mono HW5.out.size))) (by have := HBD.out; omega) HPV.out.2).mono ?_
                 rintro e w9 ⟨d9, T9, D9, rfl, hb, hm⟩
                 have HB9 := Lib.hid hb
                 have HT9 : Hid (∀ b, T9 b → wb.heap.size ≤ b) := Lib.hid fun b h => Nat.le_trans Bk8.size (hm.t b h)
                 have Bk9 := zbt HG5 Bk8 hm.bel
                 clear Bk8 hb hm HB8))
            go_roundw
            case rel => exact ⟨j + 1, d9, T9, D9, HJ.out, by first | rfl | (rw [HJ1.out]) | simp, rfl, HB9.out, HT9.out, Bk9⟩
            case measure => (have := HJ1.out; have := HJ.out; simp [intOf]; try omega)
          · obtain rfl : j = NC := by omega
            have hjI : ¬ (j : Int) < (j : Int) := by omega
            obtain ⟨zl, zn⟩ := z
            have HB := Lib.hid hb
            have HTQ := Lib.hid ht
            clear hj hjt hb ht
            go_wp2_with (first
              | (have hgo := Bk0; clear hgo
                 go_at_call 16
                 refine (HA.out.openYes Tq Dq _ dq 256 0 _ HB.out (by decide) (by decide)).mono ?_
                 rintro e w1 ⟨s1, T1, D1, rfl, hs, hg⟩
                 have HS1 := Lib.hid hs
                 have Bk1 := (hg.bel Bk0 HTQ.out).1
                 clear Bk0 hs hg HB)
              | (have hgo := Bk1; clear hgo
                 go_at_call 15
                 refine (holds_any HA.out T1 D1 _ s1 dq 256 _ _ _ false true _ lo m HS1.out (FO5.out.below Bk1 (Nat.le_refl _))).mono ?_
                 rintro e w2 ⟨rfl, kk⟩
                 have HS2 := Lib.hid (HA.out.sstay T1 D1 (fun _ => False) _ _ _ _ _ _ _ _ _ _ HS1.out (Sam.of_below kk) (fun _ h => h.elim))
                 have Bk2 := zbt HG5 Bk1 kk
                 clear Bk1 kk HS1
                 rw [HZ.out]
                 have HZ2 := Lib.hid trivial)
              | (have hgo := Bk2; clear hgo
                 go_at_call 20
                 refine (HA.out.load T1 D1 _ s1 dq 256 _ _ _ false true HS2.out).mono ?_
                 rintro e w3 ⟨v_x, rfl, o_x, kk⟩
                 have HS3 := Lib.hid (HA.out.sstay T1 D1 (fun _ => False) _ _ _ _ _ _ _ _ _ _ HS2.out (Sam.of_below kk) (fun _ h => h.elim))
                 have FX3 := Lib.hid o_x.bs
                 have Bk3 := zbt HG5 Bk2 kk
                 clear Bk2 kk HS2 o_x)
              | (have hgo := Bk3; clear hgo
                 go_at_call 17
                 refine (HA.out.crashS T1 D1 _ s1 dq 256 _ _ _ false true 0 (fun _ => 0) _ HS3.out (by decide) (vs_nil _) (by decide) (fun i h => absurd h (Nat.not_lt_zero _))).mono ?_
                 rintro e w4 ⟨d4, T4, D4, z4, rfl, hz, hb, hm⟩
                 obtain rfl : z4 = (zl, zn) := by simpa using hz
                 have HB4 := Lib.hid hb
                 have HM4 := Lib.hid hm.t
                 have HS4 := Lib.hid (HA.out.sstay T1 D1 (fun _ => False) _ _ _ _ _ _ _ _ _ _ HS3.out (Sam.of_below hm.bel) (fun _ h => h.elim))
                 have HSL : Hid (∀ b, D1 b → b < w3.heap.size) := Lib.hid (HA.out.slt _ _ _ _ _ _ _ _ _ _ _ HS3.out)
                 have LVB := Lib.hid (bs_in FX3.out)
                 have FX4 := Lib.hid (FX3.out.below hm.bel (Nat.le_refl _))
                 have HB3 : Hid (wb.heap.size ≤ w3.heap.size) := Lib.hid Bk3.size
                 have Bk4 := zbt HG5 Bk3 hm.bel
                 clear Bk3 hz hb hm HS3 FX3)
              | (have hgo := Bk4; clear hgo
                 go_at_call 16
                 refine (HA.out.openYes T4 D4 _ d4 256 0 _ HB4.out (by decide) (by decide)).mono ?_
                 rintro e w5 ⟨s5, T5, D5, rfl, hs, hg⟩
                 have HS5 := Lib.hid hs
                 have HSO := Lib.hid (HA.out.sstay T1 D1 T4 _ _ _ _ _ _ _ _ _ _ HS4.out hg.sam (fun b h hd => by have a := HM4.out b h; have c := HSL.out b hd; omega))
                 have FX5 := Lib.hid (bs_sam FX4.out hg.sam (fun b h hb => by have a := HM4.out b h; have c := LVB.out b hb; omega))
                 have Bk5 := (hg.bel Bk4 (fun b h => Nat.le_trans HB3.out (HM4.out b h))).1
                 clear Bk4 hs hg HB4 HS4 FX4)
              | (have hgo := Bk5; clear hgo
                 go_at_call 21
                 with_reducible refine (HA.out.count T5 D5 _ s5 d4 256 _ _ _ false true HS5.out).mono ?_
                 rintro e wc ⟨rfl, kk⟩
                 replace HS5 := Lib.hid (HA.out.sstay T5 D5 (fun _ => False) _ _ _ _ _ _ _ _ _ _ HS5.out (Sam.of_below kk) (fun _ h => h.elim))
                 replace HSO := Lib.hid (HA.out.sstay T1 D1 (fun _ => False) _ _ _ _ _ _ _ _ _ _ HSO.out (Sam.of_below kk) (fun _ h => h.elim))
                 replace FX5 := Lib.hid (FX5.out.below kk (Nat.le_refl _))
                 replace Bk5 := zbt HG5 Bk5 kk
                 clear kk)
              | (have hgo := Bk5; clear hgo
                 go_at_call 21
                 with_reducible refine (HA.out.count T1 D1 _ s1 dq 256 _ _ _ false true HSO.out).mono ?_
                 rintro e wc ⟨rfl, kk⟩
                 replace HS5 := Lib.hid (HA.out.sstay T5 D5 (fun _ => False) _ _ _ _ _ _ _ _ _ _ HS5.out (Sam.of_below kk) (fun _ h => h.elim))
                 replace HSO := Lib.hid (HA.out.sstay T1 D1 (fun _ => False) _ _ _ _ _ _ _ _ _ _ HSO.out (Sam.of_below kk) (fun _ h => h.elim))
                 replace FX5 := Lib.hid (FX5.out.below kk (Nat.le_refl _))
                 replace Bk5 := zbt HG5 Bk5 kk
                 clear kk)
              | (have hgo := Bk5; clear hgo
                 go_at_call 15
                 have hz0 : zn ≠ 0 := by omega
                 refine (holds_any HA.out T5 D5 _ s5 d4 256 _ _ _ false true _ zl zn HS5.out (by have h := FX5.out; simpa [hz0] using h)).mono ?_
                 rintro e wh ⟨rfl, kk⟩
                 rw [holdB_self]
                 replace HS5 := Lib.hid (HA.out.sstay T5 D5 (fun _ => False) _ _ _ _ _ _ _ _ _ _ HS5.out (Sam.of_below kk) (fun _ h => h.elim))
                 replace Bk5 := zbt HG5 Bk5 kk
                 clear kk)
              | (have hgo := Bk5; clear hgo
                 go_at_call 9
                 refine (awake16_api HA.out _).mono ?_
                 rintro e w9 ⟨rfl, kk⟩
                 have Bk9 := Bk5.trans (kk.mono Bk5.size)
                 clear Bk5 kk))
            all_goals (go_ret; exact ⟨rfl, HW5.out.trans (Bk9.mono HW5.out.size)⟩)
      · obtain rfl : K = [(lo, m), (ln, n)] := by simpa using hK
        have HS := Lib.hid hs
        have FO := Lib.hid f_o
        have FN := Lib.hid f_n
        clear hi hlt hmi hB hs hD f_o f_n hK
        go_wp2_with (first
          | (have hgo := Bw0; clear hgo
             go_at_call 18
             refine (HA.out.dead T D _ sp dp 256 B _ _ true false HS.out).mono ?_
             rintro e wb ⟨rfl, kk⟩
             have Hb := Lib.hid (HA.out.sstay T D (fun _ => False) _ _ _ _ _ _ _ _ _ _ HS.out (Sam.of_below kk) (fun _ h => h.elim))
             have FOb := Lib.hid (FO.out.step (Sam.of_below kk))
             have FNb := Lib.hid (FN.out.step (Sam.of_below kk))
             have Bwb := zbt HGS Bw0 kk
             clear Bw0 kk HS FO FN)
          | (have hgo := Bwb; clear hgo
             go_at_call 17
             refine (HA.out.crashS T D _ sp dp 256 B _ _ true false NP _ _ Hb.out (by have := HBB.out; omega) (HPV.out.1.bel Bwb) (by have := HBD.out; omega) HPV.out.2).mono ?_
             rintro e w6 ⟨d6, T6, D6, z, rfl, hz, hb, hm⟩
             have HZ : Hid (holdB z lo m = true ∨ (holdB z lo m = false ∧ holdB z ln n = true)) := Lib.hid (by
               rcases (by simpa using hz : z = (lo, m) ∨ z = (ln, n)) with rfl | rfl
               · exact .inl (holdB_self _ _)
               · cases hx : holdB (ln, n) lo m
                 · exact .inr ⟨rfl, holdB_self _ _⟩
                 · exact .inl rfl)
             have HB6 := Lib.hid hb
             have HM6 := Lib.hid hm.t
             have Bk6 := hm.bel
             have HW5 := Lib.hid Bwb
             have FO5 := Lib.hid FOb.out.bs
             have FN5 := Lib.hid FNb.out.bs
             clear Bwb hz hb hm Hb FOb FNb))
        go_loopw [19, 20] (fun cv jv wr => ∃ (j dq : Nat) (Tq Dq : Nat → Prop), j ≤ NC ∧ jv = .int .i64 (j : Int) ∧ cv = .pointer (some ⟨dq, 0, none⟩) ∧ BAt Tq Dq wr dq 256 0 z true ∧ (∀ b, Tq b → wb.heap.size ≤ b) ∧ Below wb.heap.size wb wr) (fun _ jv _ => NC - (intOf jv).toNat)
        case atStart => exact ⟨0, d6, T6, D6, Nat.zero_le _, rfl, rfl, HB6.out, HM6.out, Bk6⟩
        case round =>
          clear Bk6 HB6 HM6 T6 D6
          obtain ⟨j, dq, Tq, Dq, hj, rfl, rfl, hb, ht, Bk0⟩ := hrel
          have HG5 : Hid (∀ wq : World, Below wb.heap.size wb wq → wb.heap.size ≤ wq.heap.size) := Lib.hid fun wq h => h.size
          by_cases hjt : j < NC
          · have hjI : 0 ≤ (j : Int) ∧ (j : Int) < (NC : Int) := by omega
            have hjl : j < C.length := by rw [HNC.out]; exact hjt
            obtain ⟨b2, off2, cap2, he, _, _, hbl, hit⟩ := HCP.out.open_cons (by rw [HNC.out]; omega)
            rw [HNC.out] at he
            cases he
            have hc0 := ((HW5.out.trans (Bk0.mono HW5.out.size)).cell (p := ⟨b2, off2 + j, none⟩) hbl).trans (hit j hjl)
            have HXB := Lib.hid (bd_i64 (HWC.out _ (List.getElem_mem hjl)))
            generalize C[j] = X at *
            have HB := Lib.hid hb
            have HTQ := Lib.hid ht
            have HJ := Lib.hid hjt
            obtain ⟨j1, hj1⟩ := nat_var (j + 1)
            have hwj : IntKind.i64.wrap ((j : Int) + 1) = (j1 : Int) := by rw [IntWalk.i64_in _ (by have := HBD.out; omega)]; omega
            have HJ1 := Lib.hid hj1
            clear hj hjt hjl hit hbl hj1 hb ht
            go_wp2_with (first
              | (have hgo := HXB; clear hgo
                 go_at_call 12
                 refine (round_any X 50 _ HXB.out.1 HXB.out.2 (by decide) (by decide)).mono ?_
                 rintro e wx ⟨rfl, hx⟩
                 obtain rfl := hx.symm
                 clear HXB hc0)
              | (have hgo := Bk0; clear hgo
                 go_at_call 19
                 refine (HA.out.cutB Tq Dq _ dq 256 0 z true _ HB.out (by omega)).mono ?_
                 rintro e w7 ⟨rfl, T7, D7, hb, hg⟩
                 have HB7 := Lib.hid hb
                 have HT7 := Lib.hid (hg.bel Bk0 HTQ.out).2
                 have Bk7 := (hg.bel Bk0 HTQ.out).1
                 clear Bk0 hb hg HB)
              | (have hgo := Bk7; clear hgo
                 go_at_call 16
                 refine (HA.out.openCut T7 D7 _ dq 256 0 z HB7.out (by decide) (by decide)).mono ?_
                 rintro e w8 ⟨v8, T8, D8, rfl, ⟨va, vb, rfl⟩, hb, hg⟩
                 have HB8 := Lib.hid hb
                 have HT8 := Lib.hid (hg.bel Bk7 HT7.out).2
                 have Bk8 := (hg.bel Bk7 HT7.out).1
                 clear Bk7 hb hg HB7)
              | (have hgo := Bk8; clear hgo
                 go_at_call 17
                 refine (HA.out.crashB T8 D8 _ dq 256 _ z false NP _ _ HB8.out (by decide) (HPV.out.1.bel (HW5.out.trans (Bk8.mono HW5.out.size))) (by have := HBD.out; omega) HPV.out.2).mono ?_
                 rintro e w9 ⟨d9, T9, D9, rfl, hb, hm⟩
                 have HB9 := Lib.hid hb
                 have HT9 : Hid (∀ b, T9 b → wb.heap.size ≤ b) := Lib.hid fun b h => Nat.le_trans Bk8.size (hm.t b h)
                 have Bk9 := zbt HG5 Bk8 hm.bel
                 clear Bk8 hb hm HB8))
            go_roundw
            case rel => exact ⟨j + 1, d9, T9, D9, HJ.out, by first | rfl | (rw [HJ1.out]) | simp, rfl, HB9.out, HT9.out, Bk9⟩
            case measure => (have := HJ1.out; have := HJ.out; simp [intOf]; try omega)
          · obtain rfl : j = NC := by omega
            have hjI : ¬ (j : Int) < (j : Int) := by omega
            obtain ⟨zl, zn⟩ := z
            have HB := Lib.hid hb
            have HTQ := Lib.hid ht
            clear hj hjt hb ht
            go_wp2_with (first
              | (have hgo := Bk0; clear hgo
                 go_at_call 16
                 refine (HA.out.openYes Tq Dq _ dq 256 0 _ HB.out (by decide) (by decide)).mono ?_
                 rintro e w1 ⟨s1, T1, D1, rfl, hs, hg⟩
                 have HS1 := Lib.hid hs
                 have Bk1 := (hg.bel Bk0 HTQ.out).1
                 clear Bk0 hs hg HB)
              | (have hgo := Bk1; clear hgo
                 go_at_call 15
                 refine (holds_any HA.out T1 D1 _ s1 dq 256 _ _ _ false true _ lo m HS1.out (FO5.out.below Bk1 (Nat.le_refl _))).mono ?_
                 rintro e w2 ⟨rfl, kk⟩
                 have HS2 := Lib.hid (HA.out.sstay T1 D1 (fun _ => False) _ _ _ _ _ _ _ _ _ _ HS1.out (Sam.of_below kk) (fun _ h => h.elim))
                 have Bk2 := zbt HG5 Bk1 kk
                 clear Bk1 kk HS1
                 rcases HZ.out with h | ⟨h, h2⟩
                 all_goals rw [h]
                 all_goals clear h)
              | (have hgo := h2; clear hgo
                 have hgo := Bk2; clear hgo
                 go_at_call 15
                 refine (holds_any HA.out T1 D1 _ s1 dq 256 _ _ _ false true _ ln n HS2.out (FN5.out.below Bk2 (Nat.le_refl _))).mono ?_
                 rintro e w2b ⟨rfl, kk⟩
                 replace HS2 := Lib.hid (HA.out.sstay T1 D1 (fun _ => False) _ _ _ _ _ _ _ _ _ _ HS2.out (Sam.of_below kk) (fun _ h => h.elim))
                 replace Bk2 := zbt HG5 Bk2 kk
                 rw [h2]
                 clear kk h2)
              | (have hgo := Bk2; clear hgo
                 go_at_call 20
                 refine (HA.out.load T1 D1 _ s1 dq 256 _ _ _ false true HS2.out).mono ?_
                 rintro e w3 ⟨v_x, rfl, o_x, kk⟩
                 have HS3 := Lib.hid (HA.out.sstay T1 D1 (fun _ => False) _ _ _ _ _ _ _ _ _ _ HS2.out (Sam.of_below kk) (fun _ h => h.elim))
                 have FX3 := Lib.hid o_x.bs
                 have Bk3 := zbt HG5 Bk2 kk
                 clear Bk2 kk HS2 o_x)
              | (have hgo := Bk3; clear hgo
                 go_at_call 17
                 refine (HA.out.crashS T1 D1 _ s1 dq 256 _ _ _ false true 0 (fun _ => 0) _ HS3.out (by decide) (vs_nil _) (by decide) (fun i h => absurd h (Nat.not_lt_zero _))).mono ?_
                 rintro e w4 ⟨d4, T4, D4, z4, rfl, hz, hb, hm⟩
                 obtain rfl : z4 = (zl, zn) := by simpa using hz
                 have HB4 := Lib.hid hb
                 have HM4 := Lib.hid hm.t
                 have HS4 := Lib.hid (HA.out.sstay T1 D1 (fun _ => False) _ _ _ _ _ _ _ _ _ _ HS3.out (Sam.of_below hm.bel) (fun _ h => h.elim))
                 have HSL : Hid (∀ b, D1 b → b < w3.heap.size) := Lib.hid (HA.out.slt _ _ _ _ _ _ _ _ _ _ _ HS3.out)
                 have LVB := Lib.hid (bs_in FX3.out)
                 have FX4 := Lib.hid (FX3.out.below hm.bel (Nat.le_refl _))
                 have HB3 : Hid (wb.heap.size ≤ w3.heap.size) := Lib.hid Bk3.size
                 have Bk4 := zbt HG5 Bk3 hm.bel
                 clear Bk3 hz hb hm HS3 FX3)
              | (have hgo := Bk4; clear hgo
                 go_at_call 16
                 refine (HA.out.openYes T4 D4 _ d4 256 0 _ HB4.out (by decide) (by decide)).mono ?_
                 rintro e w5 ⟨s5, T5, D5, rfl, hs, hg⟩
                 have HS5 := Lib.hid hs
                 have HSO := Lib.hid (HA.out.sstay T1 D1 T4 _ _ _ _ _ _ _ _ _ _ HS4.out hg.sam (fun b h hd => by have a := HM4.out b h; have c := HSL.out b hd; omega))
                 have FX5 := Lib.hid (bs_sam FX4.out hg.sam (fun b h hb => by have a := HM4.out b h; have c := LVB.out b hb; omega))
                 have Bk5 := (hg.bel Bk4 (fun b h => Nat.le_trans HB3.out (HM4.out b h))).1
                 clear Bk4 hs hg HB4 HS4 FX4)
              | (have hgo := Bk5; clear hgo
                 go_at_call 21
                 with_reducible refine (HA.out.count T5 D5 _ s5 d4 256 _ _ _ false true HS5.out).mono ?_
                 rintro e wc ⟨rfl, kk⟩
                 replace HS5 := Lib.hid (HA.out.sstay T5 D5 (fun _ => False) _ _ _ _ _ _ _ _ _ _ HS5.out (Sam.of_below kk) (fun _ h => h.elim))
                 replace HSO := Lib.hid (HA.out.sstay T1 D1 (fun _ => False) _ _ _ _ _ _ _ _ _ _ HSO.out (Sam.of_below kk) (fun _ h => h.elim))
                 replace FX5 := Lib.hid (FX5.out.below kk (Nat.le_refl _))
                 replace Bk5 := zbt HG5 Bk5 kk
                 clear kk)
              | (have hgo := Bk5; clear hgo
                 go_at_call 21
                 with_reducible refine (HA.out.count T1 D1 _ s1 dq 256 _ _ _ false true HSO.out).mono ?_
                 rintro e wc ⟨rfl, kk⟩
                 replace HS5 := Lib.hid (HA.out.sstay T5 D5 (fun _ => False) _ _ _ _ _ _ _ _ _ _ HS5.out (Sam.of_below kk) (fun _ h => h.elim))
                 replace HSO := Lib.hid (HA.out.sstay T1 D1 (fun _ => False) _ _ _ _ _ _ _ _ _ _ HSO.out (Sam.of_below kk) (fun _ h => h.elim))
                 replace FX5 := Lib.hid (FX5.out.below kk (Nat.le_refl _))
                 replace Bk5 := zbt HG5 Bk5 kk
                 clear kk)
              | (have hgo := Bk5; clear hgo
                 go_at_call 15
                 have hz0 : zn ≠ 0 := by omega
                 refine (holds_any HA.out T5 D5 _ s5 d4 256 _ _ _ false true _ zl zn HS5.out (by have h := FX5.out; simpa [hz0] using h)).mono ?_
                 rintro e wh ⟨rfl, kk⟩
                 rw [holdB_self]
                 replace HS5 := Lib.hid (HA.out.sstay T5 D5 (fun _ => False) _ _ _ _ _ _ _ _ _ _ HS5.out (Sam.of_below kk) (fun _ h => h.elim))
                 replace Bk5 := zbt HG5 Bk5 kk
                 clear kk)
              | (have hgo := Bk5; clear hgo
                 go_at_call 9
                 refine (awake16_api HA.out _).mono ?_
                 rintro e w9 ⟨rfl, kk⟩
                 have Bk9 := Bk5.trans (kk.mono Bk5.size)
                 clear Bk5 kk))
            all_goals (go_ret; exact ⟨rfl, HW5.out.trans (Bk9.mono HW5.out.size)⟩)
theorem storeCrash_api (w : World) (vl : Value) (L : List Int) (hL : NumsK .i64 w vl L) (c : Int) (vp : Value) (P : List Int) (hP : NumsK .i64 w vp P) (vc : Value) (C : List Int) (hC : NumsK .i64 w vc C) : Calls Try.prog 4 #[vl, .int .i64 c, vp, vc] w fun e w' => e = .returned (.bool true) ∧ Below w.heap.size w w' := by
  have hL' := hL
  have hP' := hP
  have hC' := hC
  obtain ⟨al, cl, rfl, _⟩ := hL
  obtain ⟨ap, cp, rfl, _⟩ := hP
  obtain ⟨aq, cq, rfl, _⟩ := hC
  by_cases h1 : (20 : Int) < (L.length : Int)
  · exact crash_o1 A w _ _ _ _ _ _ _ _ _ _ h1
  by_cases h2 : (40 : Int) < (P.length : Int)
  · exact crash_o2 A w _ _ _ _ _ _ _ _ _ _ h1 h2
  by_cases h3 : (4 : Int) < (C.length : Int)
  · exact crash_o3 A w _ _ _ _ _ _ _ _ _ _ h1 h2 h3
  by_cases h4 : c < 0
  · exact crash_o4 A w _ _ _ _ _ _ _ _ _ _ h1 h2 h3 h4
  by_cases h5 : 5000 < c
  · exact crash_o5 A w _ _ _ _ _ _ _ _ _ _ h1 h2 h3 h4 h5
  exact crash_in A w _ _ _ L P C c hL' hP' hC' (by omega) (by omega) (by omega) h4 h5
end
end Go.Proofs.Ytefabimolfcllaa

/- StoreReopens over a promised store. -/
namespace Go.Proofs.Ytefabimolfcllaa
open Go.RowKit Go.Deep
set_option linter.unusedSimpArgs false
set_option linter.unusedVariables false

section
variable {BAt : (Nat → Prop) → (Nat → Prop) → World → Nat → Nat → Nat → Ct → Bool → Prop} {SAt : (Nat → Prop) → (Nat → Prop) → World → Nat → Nat → Nat → Nat → List Ct → Ct → Bool → Bool → Prop} (A : StApi BAt SAt)
include A
set_option maxHeartbeats 4000000 in
set_option maxRecDepth 20000 in
theorem reopens_o1 (w : World) (al : Option Addr) (nl cl : Nat) (h1 : (15 : Int) < (nl : Int)) : Calls Try.prog 5 #[.slice al nl cl] w fun e w' => e = .returned (.bool true) ∧ Below w.heap.size w w' := by
  have HA := Lib.hid A
  have Bw0 := Below.refl w.heap.size w
  clear A
  go_enter Try.func5, Try.ntmps5
  go_wp2_with (first
    | (have hgo := Bw0; clear hgo
       go_at_call 9
       refine (awake16_api HA.out _).mono ?_
       rintro e w1 ⟨rfl, kk⟩
       have Bw1 := Bw0.trans (kk.mono Bw0.size)
       clear Bw0 kk))
  go_ret
  exact ⟨rfl, Bw1⟩
set_option maxHeartbeats 4000000 in
set_option maxRecDepth 20000 in
theorem reopens_in (w : World) (vl : Value) (L : List Int) (hL : NumsK .i64 w vl L) (hl : L.length ≤ 15) : Calls Try.prog 5 #[vl] w fun e w' => e = .returned (.bool true) ∧ Below w.heap.size w w' := by
  have HA := Lib.hid A
  have HGS : Hid (∀ wq : World, Below w.heap.size w wq → w.heap.size ≤ wq.heap.size) := Lib.hid fun wq h => h.size
  have Bw0 := Below.refl w.heap.size w
  have HSP := Lib.hid hL
  obtain ⟨al, cl, rfl, x1, x2, x3, x4, x5⟩ := hL
  have HWF := Lib.hid x4
  clear x1 x2 x3 x4 x5
  generalize hnl : L.length = N at *
  have HNL := Lib.hid hnl
  have g2 : ¬ (15 : Int) < (N : Int) := by omega
  have HBD := Lib.hid hl
  clear A hl hnl
  go_enter Try.func5, Try.ntmps5
  go_wp2_with (first
    | (have hgo := Bw0; clear hgo
       go_at_call 10
       refine (fresh16_any HA.out _).mono ?_
       rintro e w1 ⟨dp, sp, T, D, rfl, hs, hd, kk⟩
       have HS1 := Lib.hid hs
       have HD1 : Hid (∀ b, D b → w.heap.size ≤ b) := Lib.hid fun b h => Nat.le_trans Bw0.size (hd b h)
       have Bw1 := zbt HGS Bw0 kk
       clear Bw0 kk hs hd))
  go_loopw [4, 6] (fun sv iv wr => ∃ (i sq : Nat) (T D : Nat → Prop) (lb : List UInt8), i ≤ N ∧ iv = .int .i64 (i : Int) ∧ sv = .pointer (some ⟨sq, 0, none⟩) ∧ SAt T D wr sq dp 256 (2000 * i + 1000) [(lb, i)] (lb, i) false true ∧ (∀ b, D b → w.heap.size ≤ b) ∧ Below w.heap.size w wr) (fun _ iv _ => N - (intOf iv).toNat)
  case atStart => exact ⟨0, sp, T, D, [], Nat.zero_le _, rfl, rfl, HS1.out, HD1.out, Bw1⟩
  case round =>
    clear Bw1 HS1 HD1 T D
    obtain ⟨i, sq, T, D, lb, hi, rfl, rfl, hs, hD, Bw0⟩ := hrel
    by_cases hlt : i < N
    · have hiI : 0 ≤ (i : Int) ∧ (i : Int) < (N : Int) := by omega
      have hil : i < L.length := by rw [HNL.out]; exact hlt
      obtain ⟨bb, off, cap', he, _, _, hbl, hit⟩ := HSP.out.open_cons (by rw [HNL.out]; omega)
      rw [HNL.out] at he
      cases he
      have hc0 := (Bw0.cell (p := ⟨bb, off + i, none⟩) hbl).trans (hit i hil)
      have HXB := Lib.hid (bd_i64 (HWF.out _ (List.getElem_mem hil)))
      generalize L[i] = X at *
      obtain ⟨r, hr⟩ : ∃ r : Nat, X % 2000 = (r : Int) := ⟨(X % 2000).toNat, by omega⟩
      have HR : Hid (X % 2000 = (r : Int) ∧ r < 2000) := Lib.hid (by omega)
      have HS := Lib.hid hs
      have HD := Lib.hid hD
      have HT : Hid (∀ b, T b → w.heap.size ≤ b) := Lib.hid fun b h => hD b (HA.out.ssub _ _ _ _ _ _ _ _ _ _ _ hs b h)
      have HTL : Hid (∀ b, T b → b < _) := Lib.hid fun b h => HA.out.slt _ _ _ _ _ _ _ _ _ _ _ hs b (HA.out.ssub _ _ _ _ _ _ _ _ _ _ _ hs b h)
      have HI := Lib.hid hlt
      obtain ⟨i1, hi1⟩ := nat_var (i + 1)
      have hwi : IntKind.i64.wrap ((i : Int) + 1) = (i1 : Int) := by rw [IntWalk.i64_in _ (by have := HBD.out; omega)]; omega
      have HI1 := Lib.hid hi1
      clear hi hlt hil hit hbl hi1 hs hD hr
      go_wp2_with (first
        | (have hgo := HXB; clear hgo
           go_at_call 12
           refine (round_any X 2000 _ HXB.out.1 HXB.out.2 (by decide) (by decide)).mono ?_
           rintro e wx ⟨rfl, hx⟩
           obtain rfl := hx.symm
           rw [HR.out.1]
           clear HXB hc0)
        | (have hgo := Bw0; clear hgo
           go_at_call 11
           refine (block2_any _ r (i : Int) (by have := HR.out; omega)).mono ?_
           rintro e w2 ⟨v_b, rfl, o_b, kk⟩
           have HS2 := Lib.hid (HA.out.sstay T D (fun _ => False) _ _ _ _ _ _ _ _ _ _ HS.out (Sam.of_below kk) (fun _ h => h.elim))
           have HFB := Lib.hid (BsK.own (M := T) o_b HTL.out)
           obtain ⟨ab, cb, rfl, _⟩ := o_b.bs
           have Bw2 := zbt HGS Bw0 kk
           clear Bw0 kk o_b HS)
        | (have hgo := Bw2; clear hgo
           go_at_call 13
           refine (HA.out.saveYes T D _ sq dp 256 (2000 * i + 1000) (lb, i) _ (blkL (i : Int) r) HS2.out (by have := HI.out; have := HBD.out; omega) (by show i ≤ 90000; have := HI.out; have := HBD.out; omega) HFB.out (by rw [blkL_len, room256]; have := HR.out; omega)).mono ?_
           rintro e w3 ⟨rfl, T3, D3, hs, hg⟩
           have HB3 := Lib.hid (HA.out.toB _ _ _ _ _ _ _ _ _ hs)
           have HT3 : Hid (∀ b, T3 b → w.heap.size ≤ b) := Lib.hid (hg.bel Bw2 HT.out).2
           have FL3 := Lib.hid (HFB.out.wide hg.sam hg.t)
           have HD3 : Hid (∀ b, D3 b → w.heap.size ≤ b) := Lib.hid fun b h => (hg.d b h).elim (HD.out b) fun h => Nat.le_trans Bw2.size h
           have Bw3 := (hg.bel Bw2 HT.out).1
           clear Bw2 hs hg HS2 HFB)
        | (have hgo := Bw3; clear hgo
           go_at_call 16
           refine (HA.out.openYes T3 D3 _ dp 256 (2000 * i + 1000 + 1000) (blkL (i : Int) r, i + 1) HB3.out (by decide) (by have := HI.out; have := HBD.out; omega)).mono ?_
           rintro e w4 ⟨s4, T4, D4, rfl, hs, hg⟩
           have HS4 := Lib.hid hs
           have FL4 := Lib.hid (FL3.out.wide hg.sam hg.t)
           have HD4 : Hid (∀ b, D4 b → w.heap.size ≤ b) := Lib.hid fun b h => (hg.d b h).elim (HD3.out b) fun h => Nat.le_trans Bw3.size h
           have Bw4 := (hg.bel Bw3 HT3.out).1
           clear Bw3 hs hg HB3 FL3)
        | (have hgo := Bw4; clear hgo
           go_at_call 15
           rw [show (i1 : Int) = ((i + 1 : Nat) : Int) by rw [HI1.out]]
           refine (holds_any HA.out T4 D4 _ s4 dp 256 _ _ _ false true _ (blkL (i : Int) r) (i + 1) HS4.out FL4.out.bs).mono ?_
           rintro e w5 ⟨rfl, kk⟩
           rw [holdB_self]
           have HS5 := Lib.hid (HA.out.sstay T4 D4 (fun _ => False) _ _ _ _ _ _ _ _ _ _ HS4.out (Sam.of_below kk) (fun _ h => h.elim))
           have Bw5 := zbt HGS Bw4 kk
           clear Bw4 kk HS4 FL4))
      go_roundw
      case rel => exact ⟨i + 1, s4, T4, D4, blkL (i : Int) r, HI.out, by first | rfl | (rw [HI1.out]) | simp, rfl, HS5.out, HD4.out, Bw5⟩
      case measure => (have := HI1.out; have := HI.out; simp [intOf]; try omega)
    · obtain rfl : i = N := by omega
      have hiI : ¬ (i : Int) < (i : Int) := by omega
      clear hi hlt hs hD
      go_wp2_with (first
        | (have hgo := Bw0; clear hgo
           go_at_call 9
           refine (awake16_api HA.out _).mono ?_
           rintro e w6 ⟨rfl, kk⟩
           have Bw6 := Bw0.trans (kk.mono Bw0.size)
           clear Bw0 kk))
      go_ret
      exact ⟨rfl, Bw6⟩
theorem storeReopens_api (w : World) (vl : Value) (L : List Int) (hL : NumsK .i64 w vl L) : Calls Try.prog 5 #[vl] w fun e w' => e = .returned (.bool true) ∧ Below w.heap.size w w' := by
  have hL' := hL
  obtain ⟨al, cl, rfl, _⟩ := hL
  by_cases h1 : (15 : Int) < (L.length : Int)
  · exact reopens_o1 A w _ _ _ h1
  exact reopens_in A w _ L hL' (by omega)
end
end Go.Proofs.Ytefabimolfcllaa

/- StoreNothing over a promised store. -/
namespace Go.Proofs.Ytefabimolfcllaa
open Go.RowKit Go.Deep
set_option linter.unusedSimpArgs false
set_option linter.unusedVariables false

section
variable {BAt : (Nat → Prop) → (Nat → Prop) → World → Nat → Nat → Nat → Ct → Bool → Prop} {SAt : (Nat → Prop) → (Nat → Prop) → World → Nat → Nat → Nat → Nat → List Ct → Ct → Bool → Bool → Prop} (A : StApi BAt SAt)
include A
set_option maxHeartbeats 4000000 in
set_option maxRecDepth 20000 in
theorem nothing_o1 (w : World) (b n : Int) (h1 : b < 1) : Calls Try.prog 6 #[.int .i64 b, .int .i64 n] w fun e w' => e = .returned (.bool true) ∧ Below w.heap.size w w' := by
  have HA := Lib.hid A
  have Bw0 := Below.refl w.heap.size w
  clear A
  go_enter Try.func6, Try.ntmps6
  go_wp2_with (first
    | (have hgo := Bw0; clear hgo
       go_at_call 9
       refine (awake16_api HA.out _).mono ?_
       rintro e w1 ⟨rfl, kk⟩
       have Bw1 := Bw0.trans (kk.mono Bw0.size)
       clear Bw0 kk))
  go_ret
  exact ⟨rfl, Bw1⟩
set_option maxHeartbeats 4000000 in
set_option maxRecDepth 20000 in
theorem nothing_o2 (w : World) (b n : Int) (h1 : ¬ b < 1) (h2 : 200 < b) : Calls Try.prog 6 #[.int .i64 b, .int .i64 n] w fun e w' => e = .returned (.bool true) ∧ Below w.heap.size w w' := by
  have HA := Lib.hid A
  have Bw0 := Below.refl w.heap.size w
  clear A
  go_enter Try.func6, Try.ntmps6
  go_wp2_with (first
    | (have hgo := Bw0; clear hgo
       go_at_call 9
       refine (awake16_api HA.out _).mono ?_
       rintro e w1 ⟨rfl, kk⟩
       have Bw1 := Bw0.trans (kk.mono Bw0.size)
       clear Bw0 kk))
  go_ret
  exact ⟨rfl, Bw1⟩
set_option maxHeartbeats 4000000 in
set_option maxRecDepth 20000 in
theorem nothing_o3 (w : World) (b n : Int) (h1 : ¬ b < 1) (h2 : ¬ 200 < b) (h3 : 300 < n) : Calls Try.prog 6 #[.int .i64 b, .int .i64 n] w fun e w' => e = .returned (.bool true) ∧ Below w.heap.size w w' := by
  have HA := Lib.hid A
  have Bw0 := Below.refl w.heap.size w
  clear A
  go_enter Try.func6, Try.ntmps6
  go_wp2_with (first
    | (have hgo := Bw0; clear hgo
       go_at_call 9
       refine (awake16_api HA.out _).mono ?_
       rintro e w1 ⟨rfl, kk⟩
       have Bw1 := Bw0.trans (kk.mono Bw0.size)
       clear Bw0 kk))
  go_ret
  exact ⟨rfl, Bw1⟩
set_option maxHeartbeats 4000000 in
set_option maxRecDepth 20000 in
theorem nothing_y (w : World) (b : Nat) (n : Int) (m : Nat) (hb : 1 ≤ b) (hb2 : b ≤ 200) (hn : n ≤ 300) (hm : (m : Int) = if n < 0 then 0 else n) (hx : 64 ≤ b) : Calls Try.prog 6 #[.int .i64 (b : Int), .int .i64 n] w fun e w' => e = .returned (.bool true) ∧ Below w.heap.size w w' := by
  have HA := Lib.hid A
  have HGS : Hid (∀ wq : World, Below w.heap.size w wq → w.heap.size ≤ wq.heap.size) := Lib.hid fun wq h => h.size
  have Bw0 := Below.refl w.heap.size w
  have g1 : ¬ (b : Int) < 1 := by omega
  have g2 : ¬ (200 : Int) < (b : Int) := by omega
  have g3 : ¬ 300 < n := by omega
  have g4 : (64 : Int) ≤ (b : Int) := by omega
  have hw20 : IntKind.i64.wrap (20 * (b : Int)) = ((20 * b : Nat) : Int) := by rw [IntWalk.i64_in _ (by omega)]; omega
  have hro : roomN b = 20 * b := by unfold roomN; split <;> omega
  have HM : Hid ((m : Int) = if n < 0 then 0 else n) := Lib.hid hm
  have HN : Hid (m ≤ 300 ∧ 1 ≤ b ∧ b ≤ 200 ∧ 64 ≤ b) := Lib.hid ⟨by split at hm <;> omega, hb, hb2, hx⟩
  have g5 : True := trivial
  clear A hb hb2 hn hm hx
  go_enter Try.func6, Try.ntmps6
  go_wp2_with (first
    | (have hgo := Bw0; clear hgo
       go_at_call 22
       refine (HA.out.new _ b HN.out.2.1 (by have := HN.out; omega)).mono ?_
       rintro e w1 ⟨dp, T, D, rfl, hb, hm⟩
       have HB1 := Lib.hid hb
       have HM1 := Lib.hid hm
       have Bw1 := zbt HGS Bw0 hm.bel
       have HT1 : Hid (∀ b, T b → w.heap.size ≤ b) := Lib.hid fun b h => Nat.le_trans Bw0.size (hm.t b h)
       clear Bw0 hb hm HM1)
    | (have hgo := Bw1; clear hgo
       go_at_call 16
       refine (HA.out.openYes T D _ dp b 0 _ HB1.out HN.out.2.2.2 (by decide)).mono ?_
       rintro e w2 ⟨s2, T2, D2, rfl, hs, hg⟩
       have Bw2 := (hg.bel Bw1 HT1.out).1
       clear Bw1 hs hg HB1)
    | (have hgo := Bw2; clear hgo
       go_at_call 20
       refine (HA.out.loadN _).mono ?_
       rintro e w3 ⟨v_x, rfl, kk⟩
       have Bw3 := zbt HGS Bw2 kk
       clear Bw2 kk)
    | (have hgo := Bw3; clear hgo
       refine wmax rfl (.tmp 43) (.const (.int .i64 0)) rfl rfl rfl HM.out ?_)
    | (have hgo := Bw3; clear hgo
       refine wmakeG rfl (.tmp 44) rfl m rfl (by have := HN.out; omega) ?_
       intro v_d w4 f_d kk
       have HFD := Lib.hid f_d
       have Bw4 := zbt HGS Bw3 kk
       clear Bw3 kk f_d)
    | (have hgo := Bw4; clear hgo
       go_at_call 13
       refine (HA.out.saveN _ _ _ HFD.out (by rw [List.length_replicate]; have := HN.out; omega)).mono ?_
       rintro e w5 ⟨rfl, kk⟩
       have Bw5 := zbt HGS Bw4 kk
       clear Bw4 kk HFD)
    | (have hgo := Bw5; clear hgo
       go_at_call 21
       refine (HA.out.countN _).mono ?_
       rintro e w6 ⟨rfl, kk⟩
       have Bw6 := zbt HGS Bw5 kk
       clear Bw5 kk)
    | (have hgo := Bw6; clear hgo
       go_at_call 18
       refine (HA.out.deadN _).mono ?_
       rintro e w7 ⟨rfl, kk⟩
       have Bw7 := zbt HGS Bw6 kk
       clear Bw6 kk)
    | (have hgo := Bw7; clear hgo
       go_at_call 14
       refine (HA.out.room _ b (by have := HN.out; omega)).mono ?_
       rintro e w8 ⟨rfl, kk⟩
       rw [hro]
       have Bw8 := zbt HGS Bw7 kk
       clear Bw7 kk)
    | (have hgo := Bw8; clear hgo
       go_at_call 9
       refine (awake16_api HA.out _).mono ?_
       rintro e w9 ⟨rfl, kk⟩
       have Bw9 := Bw8.trans (kk.mono Bw8.size)
       clear Bw8 kk))
  all_goals first
    | (go_ret
       exact ⟨rfl, Bw9⟩)
    | (exfalso
       rename_i h
       apply h
       rw [decide_eq_false (by omega)]
       simp
       omega)
set_option maxHeartbeats 4000000 in
set_option maxRecDepth 20000 in
theorem nothing_n (w : World) (b : Nat) (n : Int) (m : Nat) (hb : 1 ≤ b) (hb2 : b ≤ 200) (hn : n ≤ 300) (hm : (m : Int) = if n < 0 then 0 else n) (hx : b < 64) : Calls Try.prog 6 #[.int .i64 (b : Int), .int .i64 n] w fun e w' => e = .returned (.bool true) ∧ Below w.heap.size w w' := by
  have HA := Lib.hid A
  have HGS : Hid (∀ wq : World, Below w.heap.size w wq → w.heap.size ≤ wq.heap.size) := Lib.hid fun wq h => h.size
  have Bw0 := Below.refl w.heap.size w
  have g1 : ¬ (b : Int) < 1 := by omega
  have g2 : ¬ (200 : Int) < (b : Int) := by omega
  have g3 : ¬ 300 < n := by omega
  have g4 : ¬ (64 : Int) ≤ (b : Int) := by omega
  have hw20 : IntKind.i64.wrap (20 * (b : Int)) = ((20 * b : Nat) : Int) := by rw [IntWalk.i64_in _ (by omega)]; omega
  have hro : roomN b = 0 := by unfold roomN; split <;> omega
  have HM : Hid ((m : Int) = if n < 0 then 0 else n) := Lib.hid hm
  have HN : Hid (m ≤ 300 ∧ 1 ≤ b ∧ b ≤ 200 ∧ b < 64) := Lib.hid ⟨by split at hm <;> omega, hb, hb2, hx⟩
  have g5 : ¬ (0 : Int) = ((20 * b : Nat) : Int) := by omega
  clear A hb hb2 hn hm hx
  go_enter Try.func6, Try.ntmps6
  go_wp2_with (first
    | (have hgo := Bw0; clear hgo
       go_at_call 22
       refine (HA.out.new _ b HN.out.2.1 (by have := HN.out; omega)).mono ?_
       rintro e w1 ⟨dp, T, D, rfl, hb, hm⟩
       have HB1 := Lib.hid hb
       have HM1 := Lib.hid hm
       have Bw1 := zbt HGS Bw0 hm.bel
       have HT1 : Hid (∀ b, T b → w.heap.size ≤ b) := Lib.hid fun b h => Nat.le_trans Bw0.size (hm.t b h)
       clear Bw0 hb hm HM1)
    | (have hgo := Bw1; clear hgo
       go_at_call 16
       refine (HA.out.openSmall T D _ dp b 0 _ _ HB1.out HN.out.2.2.2).mono ?_
       rintro e w2 ⟨rfl, kk⟩
       have Bw2 := zbt HGS Bw1 kk
       clear Bw1 kk HB1)
    | (have hgo := Bw2; clear hgo
       go_at_call 20
       refine (HA.out.loadN _).mono ?_
       rintro e w3 ⟨v_x, rfl, kk⟩
       have Bw3 := zbt HGS Bw2 kk
       clear Bw2 kk)
    | (have hgo := Bw3; clear hgo
       refine wmax rfl (.tmp 43) (.const (.int .i64 0)) rfl rfl rfl HM.out ?_)
    | (have hgo := Bw3; clear hgo
       refine wmakeG rfl (.tmp 44) rfl m rfl (by have := HN.out; omega) ?_
       intro v_d w4 f_d kk
       have HFD := Lib.hid f_d
       have Bw4 := zbt HGS Bw3 kk
       clear Bw3 kk f_d)
    | (have hgo := Bw4; clear hgo
       go_at_call 13
       refine (HA.out.saveN _ _ _ HFD.out (by rw [List.length_replicate]; have := HN.out; omega)).mono ?_
       rintro e w5 ⟨rfl, kk⟩
       have Bw5 := zbt HGS Bw4 kk
       clear Bw4 kk HFD)
    | (have hgo := Bw5; clear hgo
       go_at_call 21
       refine (HA.out.countN _).mono ?_
       rintro e w6 ⟨rfl, kk⟩
       have Bw6 := zbt HGS Bw5 kk
       clear Bw5 kk)
    | (have hgo := Bw6; clear hgo
       go_at_call 18
       refine (HA.out.deadN _).mono ?_
       rintro e w7 ⟨rfl, kk⟩
       have Bw7 := zbt HGS Bw6 kk
       clear Bw6 kk)
    | (have hgo := Bw7; clear hgo
       go_at_call 14
       refine (HA.out.room _ b (by have := HN.out; omega)).mono ?_
       rintro e w8 ⟨rfl, kk⟩
       rw [hro]
       have Bw8 := zbt HGS Bw7 kk
       clear Bw7 kk)
    | (have hgo := Bw8; clear hgo
       go_at_call 9
       refine (awake16_api HA.out _).mono ?_
       rintro e w9 ⟨rfl, kk⟩
       have Bw9 := Bw8.trans (kk.mono Bw8.size)
       clear Bw8 kk))
  all_goals first
    | (go_ret
       exact ⟨rfl, Bw9⟩)
    | (exfalso
       rename_i h
       apply h
       rw [decide_eq_false (by omega)]
       simp
       omega)
theorem storeNothing_api (w : World) (b n : Int) : Calls Try.prog 6 #[.int .i64 b, .int .i64 n] w fun e w' => e = .returned (.bool true) ∧ Below w.heap.size w w' := by
  by_cases h1 : b < 1
  · exact nothing_o1 A w _ _ h1
  by_cases h2 : 200 < b
  · exact nothing_o2 A w _ _ h1 h2
  by_cases h3 : 300 < n
  · exact nothing_o3 A w _ _ h1 h2 h3
  obtain ⟨c, rfl⟩ : ∃ c : Nat, b = (c : Int) := ⟨b.toNat, by omega⟩
  obtain ⟨m, hm⟩ : ∃ m : Nat, (m : Int) = if n < 0 then 0 else n := ⟨(if n < 0 then 0 else n).toNat, by split <;> omega⟩
  by_cases hx : 64 ≤ c
  · exact nothing_y A w c n m (by omega) (by omega) (by omega) hm hx
  · exact nothing_n A w c n m (by omega) (by omega) (by omega) hm (by omega)
end
end Go.Proofs.Ytefabimolfcllaa

/- StoreDead over a promised store. -/
namespace Go.Proofs.Ytefabimolfcllaa
open Go.RowKit Go.Deep
set_option linter.unusedSimpArgs false
set_option linter.unusedVariables false

section
variable {BAt : (Nat → Prop) → (Nat → Prop) → World → Nat → Nat → Nat → Ct → Bool → Prop} {SAt : (Nat → Prop) → (Nat → Prop) → World → Nat → Nat → Nat → Nat → List Ct → Ct → Bool → Bool → Prop} (A : StApi BAt SAt)
include A
set_option maxHeartbeats 4000000 in
set_option maxRecDepth 20000 in
theorem dead_o1 (w : World) (n c : Int) (h1 : n < 0) : Calls Try.prog 7 #[.int .i64 n, .int .i64 c] w fun e w' => e = .returned (.bool true) ∧ Below w.heap.size w w' := by
  have HA := Lib.hid A
  have Bw0 := Below.refl w.heap.size w
  clear A
  go_enter Try.func7, Try.ntmps7
  go_wp2_with (first
    | (have hgo := Bw0; clear hgo
       go_at_call 9
       refine (awake16_api HA.out _).mono ?_
       rintro e w1 ⟨rfl, kk⟩
       have Bw1 := Bw0.trans (kk.mono Bw0.size)
       clear Bw0 kk))
  go_ret
  exact ⟨rfl, Bw1⟩
set_option maxHeartbeats 4000000 in
set_option maxRecDepth 20000 in
theorem dead_o2 (w : World) (n c : Int) (h1 : ¬ n < 0) (h2 : 3000 < n) : Calls Try.prog 7 #[.int .i64 n, .int .i64 c] w fun e w' => e = .returned (.bool true) ∧ Below w.heap.size w w' := by
  have HA := Lib.hid A
  have Bw0 := Below.refl w.heap.size w
  clear A
  go_enter Try.func7, Try.ntmps7
  go_wp2_with (first
    | (have hgo := Bw0; clear hgo
       go_at_call 9
       refine (awake16_api HA.out _).mono ?_
       rintro e w1 ⟨rfl, kk⟩
       have Bw1 := Bw0.trans (kk.mono Bw0.size)
       clear Bw0 kk))
  go_ret
  exact ⟨rfl, Bw1⟩
set_option maxHeartbeats 4000000 in
set_option maxRecDepth 20000 in
theorem dead_o3 (w : World) (n c : Int) (h1 : ¬ n < 0) (h2 : ¬ 3000 < n) (h3 : c < 0) : Calls Try.prog 7 #[.int .i64 n, .int .i64 c] w fun e w' => e = .returned (.bool true) ∧ Below w.heap.size w w' := by
  have HA := Lib.hid A
  have Bw0 := Below.refl w.heap.size w
  clear A
  go_enter Try.func7, Try.ntmps7
  go_wp2_with (first
    | (have hgo := Bw0; clear hgo
       go_at_call 9
       refine (awake16_api HA.out _).mono ?_
       rintro e w1 ⟨rfl, kk⟩
       have Bw1 := Bw0.trans (kk.mono Bw0.size)
       clear Bw0 kk))
  go_ret
  exact ⟨rfl, Bw1⟩
set_option maxHeartbeats 4000000 in
set_option maxRecDepth 20000 in
theorem dead_o4 (w : World) (n c : Int) (h1 : ¬ n < 0) (h2 : ¬ 3000 < n) (h3 : ¬ c < 0) (h4 : 300 < c) : Calls Try.prog 7 #[.int .i64 n, .int .i64 c] w fun e w' => e = .returned (.bool true) ∧ Below w.heap.size w w' := by
  have HA := Lib.hid A
  have Bw0 := Below.refl w.heap.size w
  clear A
  go_enter Try.func7, Try.ntmps7
  go_wp2_with (first
    | (have hgo := Bw0; clear hgo
       go_at_call 9
       refine (awake16_api HA.out _).mono ?_
       rintro e w1 ⟨rfl, kk⟩
       have Bw1 := Bw0.trans (kk.mono Bw0.size)
       clear Bw0 kk))
  go_ret
  exact ⟨rfl, Bw1⟩
set_option maxHeartbeats 4000000 in
set_option maxRecDepth 20000 in
theorem dead_in (w : World) (n : Nat) (c : Int) (hn : n ≤ 3000) (hc : 0 ≤ c) (hc2 : c ≤ 300) : Calls Try.prog 7 #[.int .i64 (n : Int), .int .i64 c] w fun e w' => e = .returned (.bool true) ∧ Below w.heap.size w w' := by
  have HA := Lib.hid A
  have HGS : Hid (∀ wq : World, Below w.heap.size w wq → w.heap.size ≤ wq.heap.size) := Lib.hid fun wq h => h.size
  have Bw0 := Below.refl w.heap.size w
  have g1 : ¬ (n : Int) < 0 := by omega
  have g2 : ¬ (3000 : Int) < (n : Int) := by omega
  have g3 : ¬ c < 0 := by omega
  have g4 : ¬ 300 < c := by omega
  have HN := Lib.hid hn
  clear A hn hc hc2
  go_enter Try.func7, Try.ntmps7
  go_wp2_with (first
    | (have hgo := Bw0; clear hgo
       go_at_call 10
       refine (fresh16_any HA.out _).mono ?_
       rintro e w1 ⟨dp, sp, T, D, rfl, hs, hd, kk⟩
       have HS1 := Lib.hid hs
       have HD1 : Hid (∀ b, D b → w.heap.size ≤ b) := Lib.hid fun b h => Nat.le_trans Bw0.size (hd b h)
       have Bw1 := zbt HGS Bw0 kk
       clear Bw0 kk hs hd)
    | (have hgo := Bw1; clear hgo
       refine wlitF (.tmp 34) rfl rfl rfl (fun _ => rfl) (fun _ => rfl) ?_
       intro v_0 v_a w2 f_a kk
       have HS2 := Lib.hid (HA.out.sstay T D (fun _ => False) _ _ _ _ _ _ _ _ _ _ HS1.out (Sam.of_below kk) (fun _ h => h.elim))
       have HFK : Hid (BsK T w2 v_a [102, 105, 114, 115, 116]) := Lib.hid (f_a T (fun b h => HA.out.slt _ _ _ _ _ _ _ _ _ _ _ HS1.out b (HA.out.ssub _ _ _ _ _ _ _ _ _ _ _ HS1.out b h)))
       have HT : Hid (∀ b, T b → w.heap.size ≤ b) := Lib.hid fun b h => HD1.out b (HA.out.ssub _ _ _ _ _ _ _ _ _ _ _ HS2.out b h)
       have Bw2 := zbt HGS Bw1 kk
       clear Bw1 kk HS1 f_a)
    | (have hgo := Bw2; clear hgo
       go_at_call 13
       refine (HA.out.saveYes T D _ sp dp 256 1000 ([], 0) _ [102, 105, 114, 115, 116] HS2.out (by decide) (by decide) HFK.out (by decide)).mono ?_
       rintro e w3 ⟨rfl, T3, D3, hs, hg⟩
       have HS3 := Lib.hid hs
       have HT3 := Lib.hid (hg.bel Bw2 HT.out).2
       have Bw3 := (hg.bel Bw2 HT.out).1
       clear Bw2 hs hg HS2 HFK)
    | (have hgo := Bw3; clear hgo
       go_at_call 19
       refine (HA.out.cutS T3 D3 _ sp dp 256 (1000 + 1000) _ _ false true c HS3.out (by omega)).mono ?_
       rintro e w4 ⟨rfl, T4, D4, hs, hg⟩
       have HS4 := Lib.hid hs
       have HT4 := Lib.hid (hg.bel Bw3 HT3.out).2
       have Bw4 := (hg.bel Bw3 HT3.out).1
       clear Bw3 hs hg HS3)
    | (have hgo := Bw4; clear hgo
       go_at_call 11
       refine (block2_any _ n 1 (by have := HN.out; omega)).mono ?_
       rintro e w5 ⟨v_b, rfl, o_b, kk⟩
       have HS5 := Lib.hid (HA.out.sstay T4 D4 (fun _ => False) _ _ _ _ _ _ _ _ _ _ HS4.out (Sam.of_below kk) (fun _ h => h.elim))
       have HFB := Lib.hid (BsK.own (M := T4) o_b (fun b h => HA.out.slt _ _ _ _ _ _ _ _ _ _ _ HS4.out b (HA.out.ssub _ _ _ _ _ _ _ _ _ _ _ HS4.out b h)))
       have Bw5 := zbt HGS Bw4 kk
       clear Bw4 kk HS4 o_b)
    | (have hgo := Bw5; clear hgo
       go_at_call 13
       refine (HA.out.saveCut T4 D4 _ sp dp 256 (1000 + 1000) _ _ (blkL 1 n) HS5.out (by decide) (by decide) HFB.out (by rw [blkL_len, room256]; have := HN.out; omega)).mono ?_
       rintro e w6 h6
       rcases h6 with ⟨rfl, T6, D6, hs, hg⟩ | ⟨rfl, T6, D6, hs, hg⟩
       all_goals (have HS6 := Lib.hid hs; have HFB6 := Lib.hid (HFB.out.wide hg.sam hg.t); have HT6 := Lib.hid (hg.bel Bw5 HT4.out).2; have Bw6 := (hg.bel Bw5 HT4.out).1; clear Bw5 hs hg HS5 HFB))
    | (have hgo := Bw6; clear hgo
       go_at_call 15
       refine (holds_any HA.out T6 D6 _ sp dp 256 _ _ _ false false _ (blkL 1 n) 2 HS6.out HFB6.out.bs).mono ?_
       rintro e w7 ⟨rfl, kk⟩
       have hob : holdB (blkL 1 n, 1 + 1) (blkL 1 n) 2 = true := holdB_self _ _
       simp only [Nat.zero_add] at *
       rw [hob]
       have HS7 := Lib.hid (HA.out.sstay T6 D6 (fun _ => False) _ _ _ _ _ _ _ _ _ _ HS6.out (Sam.of_below kk) (fun _ h => h.elim))
       have Bw7 := zbt HGS Bw6 kk
       clear Bw6 kk HS6)
    | (have hgo := Bw7; clear hgo
       go_at_call 18
       refine (HA.out.dead T6 D6 _ sp dp 256 _ _ _ false false HS7.out).mono ?_
       rintro e w8 ⟨rfl, kk⟩
       have Bw8 := zbt HGS Bw7 kk
       clear Bw7 kk HS7)
    | (have hgo := Bw8; clear hgo
       go_at_call 9
       refine (awake16_api HA.out _).mono ?_
       rintro e w9 ⟨rfl, kk⟩
       have Bw9 := Bw8.trans (kk.mono Bw8.size)
       clear Bw8 kk)
    | (have hgo := Bw6; clear hgo
       go_at_call 18
       refine (HA.out.dead T6 D6 _ sp dp 256 _ _ _ true false HS6.out).mono ?_
       rintro e w10 ⟨rfl, kk⟩
       have HS10 := Lib.hid (HA.out.sstay T6 D6 (fun _ => False) _ _ _ _ _ _ _ _ _ _ HS6.out (Sam.of_below kk) (fun _ h => h.elim))
       have Bw10 := zbt HGS Bw6 kk
       clear Bw6 kk HS6)
    | (have hgo := Bw10; clear hgo
       refine wlitF (.tmp 68) rfl rfl rfl (fun _ => rfl) (fun _ => rfl) ?_
       intro v_1 v_c w11 f_c kk
       have HS11 := Lib.hid (HA.out.sstay T6 D6 (fun _ => False) _ _ _ _ _ _ _ _ _ _ HS10.out (Sam.of_below kk) (fun _ h => h.elim))
       have HFC : Hid (Bs w11 v_c [102, 105, 114, 115, 116]) := Lib.hid (f_c (fun _ => False) (fun b h => h.elim)).bs
       have Bw11 := zbt HGS Bw10 kk
       clear Bw10 kk HS10 f_c)
    | (have hgo := Bw11; clear hgo
       go_at_call 15
       refine (holds_any HA.out T6 D6 _ sp dp 256 _ _ _ true false _ [102, 105, 114, 115, 116] 1 HS11.out HFC.out).mono ?_
       rintro e w12 ⟨rfl, kk⟩
       rw [show holdB ([102, 105, 114, 115, 116], 0 + 1) [102, 105, 114, 115, 116] 1 = true from rfl]
       have HS12 := Lib.hid (HA.out.sstay T6 D6 (fun _ => False) _ _ _ _ _ _ _ _ _ _ HS11.out (Sam.of_below kk) (fun _ h => h.elim))
       have Bw12 := zbt HGS Bw11 kk
       clear Bw11 kk HS11 HFC)
    | (have hgo := Bw12; clear hgo
       go_at_call 13
       refine (HA.out.saveDead T6 D6 _ sp dp 256 _ _ _ false _ [] HS12.out (by decide) (BsK.nil _ _) (by decide)).mono ?_
       rintro e w13 ⟨rfl, T13, D13, hs, hg⟩
       have HS13 := Lib.hid hs
       have Bw13 := (hg.bel Bw12 HT6.out).1
       clear Bw12 hs hg HS12)
    | (have hgo := Bw13; clear hgo
       refine wmakeG rfl (.const (.int .i64 5121)) rfl 5121 rfl (by decide) ?_
       intro v_d w14 f_d kk
       have HFD := Lib.hid f_d
       have HS14 := Lib.hid (HA.out.sstay T13 D13 (fun _ => False) _ _ _ _ _ _ _ _ _ _ HS13.out (Sam.of_below kk) (fun _ h => h.elim))
       have Bw14 := zbt HGS Bw13 kk
       clear Bw13 kk HS13 f_d)
    | (have hgo := Bw14; clear hgo
       go_at_call 13
       refine (HA.out.saveBig T13 D13 _ sp dp 256 _ _ _ true false _ (List.replicate 5121 0) HS14.out (by decide) HFD.out (by rw [List.length_replicate]; decide) (by rw [List.length_replicate, room256]; decide)).mono ?_
       rintro e w15 ⟨rfl, kk⟩
       have Bw15 := zbt HGS Bw14 kk
       clear Bw14 kk HS14 HFD)
    | (have hgo := Bw15; clear hgo
       go_at_call 9
       refine (awake16_api HA.out _).mono ?_
       rintro e w16 ⟨rfl, kk⟩
       have Bw16 := Bw15.trans (kk.mono Bw15.size)
       clear Bw15 kk))
  · go_ret
    exact ⟨rfl, Bw9⟩
  · go_ret
    exact ⟨rfl, Bw16⟩
theorem storeDead_api (w : World) (n c : Int) : Calls Try.prog 7 #[.int .i64 n, .int .i64 c] w fun e w' => e = .returned (.bool true) ∧ Below w.heap.size w w' := by
  by_cases h1 : n < 0
  · exact dead_o1 A w _ _ h1
  by_cases h2 : 3000 < n
  · exact dead_o2 A w _ _ h1 h2
  by_cases h3 : c < 0
  · exact dead_o3 A w _ _ h1 h2 h3
  by_cases h4 : 300 < c
  · exact dead_o4 A w _ _ h1 h2 h3 h4
  obtain ⟨m, rfl⟩ : ∃ m : Nat, n = (m : Int) := ⟨n.toNat, by omega⟩
  exact dead_in A w m c (by omega) (by omega) (by omega)
end
end Go.Proofs.Ytefabimolfcllaa

/- StoreKeeps over a promised store. -/
namespace Go.Proofs.Ytefabimolfcllaa
open Go.RowKit Go.Deep
set_option linter.unusedSimpArgs false
set_option linter.unusedVariables false

section
variable {BAt : (Nat → Prop) → (Nat → Prop) → World → Nat → Nat → Nat → Ct → Bool → Prop} {SAt : (Nat → Prop) → (Nat → Prop) → World → Nat → Nat → Nat → Nat → List Ct → Ct → Bool → Bool → Prop} (A : StApi BAt SAt)
include A
set_option maxHeartbeats 4000000 in
set_option maxRecDepth 20000 in
theorem keeps_o1 (w : World) (ab : Option Addr) (nb cb : Nat) (ap : Option Addr) (np cp : Nat) (h1 : (nb : Int) = 0) : Calls Try.prog 8 #[.slice ab nb cb, .slice ap np cp] w fun e w' => e = .returned (.bool true) ∧ Below w.heap.size w w' := by
  have HA := Lib.hid A
  have Bw0 := Below.refl w.heap.size w
  clear A
  go_enter Try.func8, Try.ntmps8
  go_wp2_with (first
    | (have hgo := Bw0; clear hgo
       go_at_call 9
       refine (awake16_api HA.out _).mono ?_
       rintro e w1 ⟨rfl, kk⟩
       have Bw1 := Bw0.trans (kk.mono Bw0.size)
       clear Bw0 kk))
  go_ret
  exact ⟨rfl, Bw1⟩
set_option maxHeartbeats 4000000 in
set_option maxRecDepth 20000 in
theorem keeps_o2 (w : World) (ab : Option Addr) (nb cb : Nat) (ap : Option Addr) (np cp : Nat) (h1 : ¬ (nb : Int) = 0) (h2 : (2000 : Int) < (nb : Int)) : Calls Try.prog 8 #[.slice ab nb cb, .slice ap np cp] w fun e w' => e = .returned (.bool true) ∧ Below w.heap.size w w' := by
  have HA := Lib.hid A
  have Bw0 := Below.refl w.heap.size w
  clear A
  go_enter Try.func8, Try.ntmps8
  go_wp2_with (first
    | (have hgo := Bw0; clear hgo
       go_at_call 9
       refine (awake16_api HA.out _).mono ?_
       rintro e w1 ⟨rfl, kk⟩
       have Bw1 := Bw0.trans (kk.mono Bw0.size)
       clear Bw0 kk))
  go_ret
  exact ⟨rfl, Bw1⟩
set_option maxHeartbeats 4000000 in
set_option maxRecDepth 20000 in
theorem keeps_o3 (w : World) (ab : Option Addr) (nb cb : Nat) (ap : Option Addr) (np cp : Nat) (h1 : ¬ (nb : Int) = 0) (h2 : ¬ (2000 : Int) < (nb : Int)) (h3 : (10 : Int) < (np : Int)) : Calls Try.prog 8 #[.slice ab nb cb, .slice ap np cp] w fun e w' => e = .returned (.bool true) ∧ Below w.heap.size w w' := by
  have HA := Lib.hid A
  have Bw0 := Below.refl w.heap.size w
  clear A
  go_enter Try.func8, Try.ntmps8
  go_wp2_with (first
    | (have hgo := Bw0; clear hgo
       go_at_call 9
       refine (awake16_api HA.out _).mono ?_
       rintro e w1 ⟨rfl, kk⟩
       have Bw1 := Bw0.trans (kk.mono Bw0.size)
       clear Bw0 kk))
  go_ret
  exact ⟨rfl, Bw1⟩
set_option maxHeartbeats 4000000 in
set_option maxRecDepth 20000 in
theorem keeps_in (w : World) (vb vp : Value) (l : List UInt8) (P : List Int) (hb : Bs w vb l) (hP : NumsK .i64 w vp P) (h0 : 0 < l.length) (hl : l.length ≤ 2000) (hp : P.length ≤ 10) : Calls Try.prog 8 #[vb, vp] w fun e w' => e = .returned (.bool true) ∧ Below w.heap.size w w' := by
  have HA := Lib.hid A
  have HGS : Hid (∀ wq : World, Below w.heap.size w wq → w.heap.size ≤ wq.heap.size) := Lib.hid fun wq h => h.size
  have Bw0 := Below.refl w.heap.size w
  have HPV := Lib.hid hP.vs
  have HB0 := Lib.hid hb
  obtain ⟨ab, cb, rfl, y0⟩ := hb
  obtain ⟨ap, cp, rfl, y1, y2, y3, y4, y5⟩ := hP
  clear y0 y1 y2 y3 y4 y5
  obtain ⟨p, hp0⟩ : ∃ p : Nat, p = (l.getD 0 0).toNat := ⟨_, rfl⟩
  have hpl : p < 256 := by rw [hp0]; exact UInt8.toNat_lt _
  obtain ⟨p1, hp1⟩ := nat_var ((p + 1) % 256)
  have hw8 : IntKind.u8.wrap ((p : Int) + 1) = (p1 : Int) := by rw [IntKind.wrap_u8]; omega
  have HP1 : Hid (p1 < 256) := Lib.hid (by omega)
  clear hpl hp1
  generalize hnl : l.length = N at *
  generalize hnp : P.length = NP at *
  have HNL := Lib.hid hnl
  have g1 : ¬ (N : Int) = 0 := by omega
  have g2 : ¬ (2000 : Int) < (N : Int) := by omega
  have g3 : ¬ (10 : Int) < (NP : Int) := by omega
  have g4 : 0 ≤ (0 : Int) ∧ (0 : Int) < (N : Int) := by omega
  have HBD := Lib.hid (And.intro h0 (And.intro hl hp))
  have HPB : Hid (∀ h : 0 < l.length, (l[0]'h).toNat = p) := Lib.hid fun h => by rw [hp0, List.getD_eq_getElem?_getD, List.getElem?_eq_getElem h]; rfl
  clear A h0 hl hp hnl hnp hp0
  go_enter Try.func8, Try.ntmps8
  go_wp2_with (first
    | (have hgo := Bw0; clear hgo
       go_at_call 10
       refine (fresh16_any HA.out _).mono ?_
       rintro e w1 ⟨dp, sp, T, D, rfl, hs, hd, kk⟩
       have HS1 := Lib.hid hs
       have HD1 : Hid (∀ b, D b → w.heap.size ≤ b) := Lib.hid fun b h => Nat.le_trans Bw0.size (hd b h)
       have Bw1 := zbt HGS Bw0 kk
       clear Bw0 kk hs hd)
    | (have hgo := Bw1; clear hgo
       refine wpList_bytes0 rfl rfl ?_
       intro v_0 w2 o_0 kk
       have HZ : Hid (w1.heap.size ≤ w2.heap.size) := Lib.hid kk.size
       have HW1 : Hid (w.heap.size ≤ w1.heap.size) := Lib.hid Bw1.size
       have HDL : Hid (∀ b, D b → b < w1.heap.size) := Lib.hid (HA.out.slt _ _ _ _ _ _ _ _ _ _ _ HS1.out)
       have HS2 := Lib.hid (HA.out.sstay T D (fun _ => False) _ _ _ _ _ _ _ _ _ _ HS1.out (Sam.of_below kk) (fun _ h => h.elim))
       have Bw2 := zbt HGS Bw1 kk
       clear Bw1 kk HS1)
    | (have hgo := o_0; clear hgo
       refine wpList_appP (.tmp 34) (.tmp 35) rfl rfl w1.heap.size _ _ [] l o_0 (HB0.out.below Bw2 (Nat.le_refl _)) rfl rfl (by have := HBD.out; have := HNL.out; simp; omega) HZ.out ?_
       intro v_c w3 o_c gr sm
       have OB := Lib.hid (Owns.block o_0)
       have HS3 := Lib.hid (HA.out.sstay T D (fun b => v_0.ownBlock = some b) _ _ _ _ _ _ _ _ _ _ HS2.out (Sam.of_grown gr (fun b h => h)) (fun b h hd => absurd (HDL.out b hd) (Nat.not_lt_of_le (OB.out b h))))
       have Bw3 := Bw2.grown gr (HGS.out _ Bw2) (fun k hk => Nat.le_trans HW1.out (OB.out k hk))
       replace o_c : Owns w3 w1.heap.size v_c l := o_c
       obtain ⟨g, cap, hv, hg, hgs, _, _⟩ := o_c.open_cons (by rw [HNL.out]; exact HBD.out.1)
       rw [HNL.out] at hv
       subst hv
       have HG : Hid (w1.heap.size ≤ g ∧ g < w3.heap.size) := Lib.hid ⟨hg, hgs⟩
       obtain ⟨hcap⟩ : Nonempty (N ≤ cap) := by
         obtain ⟨_, _, he, hc, _⟩ := o_c.bs
         injection he with _ _ he
         subst he
         rw [HNL.out] at hc
         exact ⟨hc⟩
       have HTL : Hid (∀ b, T b → b < w1.heap.size) := Lib.hid fun b h => HDL.out b (HA.out.ssub _ _ _ _ _ _ _ _ _ _ _ HS3.out b h)
       clear Bw2 o_0 gr sm HS2 OB hg hgs)
    | (have hgo := Bw3; clear hgo
       go_at_call 13
       refine (HA.out.saveYes T D _ sp dp 256 1000 ([], 0) _ l HS3.out (by decide) (by decide) (BsK.own (M := T) o_c HTL.out) (by rw [room256]; have := HBD.out; have := HNL.out; omega)).mono ?_
       rintro e w4 ⟨rfl, T4, D4, hs, hg⟩
       have HS4 : Hid (SAt T4 D4 w4 sp dp 256 2000 [(l, 1)] (l, 1) false true) := Lib.hid hs
       replace o_c := o_c.sam hg.sam (fun b h ht => by cases h; exact absurd (HTL.out _ ht) (Nat.not_lt_of_le HG.out.1))
       have HGD : Hid (¬ D4 g) := Lib.hid fun h => (hg.d g h).elim (fun h => absurd (HDL.out _ h) (Nat.not_lt_of_le HG.out.1)) fun h => absurd HG.out.2 (Nat.not_lt_of_le h)
       have HD4 : Hid (∀ b, D4 b → w.heap.size ≤ b) := Lib.hid fun b h => (hg.d b h).elim (HD1.out b) fun h => Nat.le_trans Bw3.size h
       have Bw4 := (hg.bel Bw3 (fun b h => HD1.out b (HA.out.ssub _ _ _ _ _ _ _ _ _ _ _ HS3.out b h))).1
       have f_c := o_c.bs
       have f_b := HB0.out.below Bw4 (Nat.le_refl _)
       clear Bw3 hs hg HS3)
    | (have hgo := Bw4; clear hgo
       refine wstrG rfl rfl f_c rfl ?_)
    | (have hgo := Bw4; clear hgo
       refine wstrG rfl rfl f_b rfl ?_)
    | (refine wseqN rfl rfl rfl rfl ?_)
    | (have hgo := Bw4; clear hgo
       refine wpList_load_byte rfl (.tmp 50) rfl 0 p o_c HNL.out.symm (by rw [HNL.out]; exact HBD.out.1) rfl (HPB.out _) ?_)
    | (have hgo := Bw4; clear hgo
       refine wpList_store_byte rfl (.tmp 53) (.tmp 52) rfl 0 p1 o_c HNL.out.symm hcap (by rw [HNL.out]; exact HBD.out.1) rfl rfl HP1.out ?_
       intro w5 o_5 gr
       have HS5 := Lib.hid (HA.out.sstay T4 D4 (fun b => some g = some b) _ _ _ _ _ _ _ _ _ _ HS4.out (Sam.of_grown gr (fun b h => h)) (fun b h hd => by cases h; exact HGD.out hd))
       have Bw5 := Bw4.grown gr (HGS.out _ Bw4) (fun k hk => by cases hk; exact Nat.le_trans HW1.out HG.out.1)
       clear Bw4 o_c o_5 gr HS4 f_c f_b hcap)
    | (have hgo := Bw5; clear hgo
       go_at_call 20
       refine (HA.out.load T4 D4 _ sp dp 256 2000 _ (l, 1) false true HS5.out).mono ?_
       rintro e w6 ⟨v_x, rfl, o_x, kk⟩
       replace o_x : Owns w6 w5.heap.size v_x l := o_x
       have HS6 := Lib.hid (HA.out.sstay T4 D4 (fun _ => False) _ _ _ _ _ _ _ _ _ _ HS5.out (Sam.of_below kk) (fun _ h => h.elim))
       have HDL4 : Hid (∀ b, D4 b → b < w5.heap.size) := Lib.hid (HA.out.slt _ _ _ _ _ _ _ _ _ _ _ HS5.out)
       have HW5 : Hid (w.heap.size ≤ w5.heap.size) := Lib.hid Bw5.size
       have Bw6 := zbt HGS Bw5 kk
       obtain ⟨g2, cap2, hv, hg, hgs, _, _⟩ := o_x.open_cons (by rw [HNL.out]; exact HBD.out.1)
       rw [HNL.out] at hv
       subst hv
       have HG2 : Hid (w5.heap.size ≤ g2) := Lib.hid hg
       obtain ⟨hcap⟩ : Nonempty (N ≤ cap2) := by
         obtain ⟨_, _, he, hc, _⟩ := o_x.bs
         injection he with _ _ he
         subst he
         rw [HNL.out] at hc
         exact ⟨hc⟩
       have f_x := o_x.bs
       have f_b := HB0.out.below Bw6 (Nat.le_refl _)
       clear Bw5 kk HS5 hg hgs)
    | (have hgo := Bw6; clear hgo
       refine wstrG rfl rfl f_x rfl ?_)
    | (have hgo := Bw6; clear hgo
       refine wstrG rfl rfl f_b rfl ?_)
    | (have hgo := Bw6; clear hgo
       refine wpList_load_byte rfl (.tmp 66) rfl 0 p o_x HNL.out.symm (by rw [HNL.out]; exact HBD.out.1) rfl (HPB.out _) ?_)
    | (have hgo := Bw6; clear hgo
       refine wpList_store_byte rfl (.tmp 69) (.tmp 68) rfl 0 p1 o_x HNL.out.symm hcap (by rw [HNL.out]; exact HBD.out.1) rfl rfl HP1.out ?_
       intro w7 o_7 gr
       have HS7 := Lib.hid (HA.out.sstay T4 D4 (fun b => some g2 = some b) _ _ _ _ _ _ _ _ _ _ HS6.out (Sam.of_grown gr (fun b h => h)) (fun b h hd => by cases h; exact absurd (HDL4.out _ hd) (Nat.not_lt_of_le HG2.out)))
       have Bw7 := Bw6.grown gr (HGS.out _ Bw6) (fun k hk => by cases hk; exact Nat.le_trans HW5.out HG2.out)
       clear Bw6 o_x o_7 gr HS6 f_x f_b hcap)
    | (have hgo := Bw7; clear hgo
       go_at_call 17
       refine (HA.out.crashS T4 D4 _ sp dp 256 2000 _ _ false true NP _ _ HS7.out (by decide) (HPV.out.1.bel Bw7) (by have := HBD.out; omega) HPV.out.2).mono ?_
       rintro e w8 ⟨d8, T8, D8, z, rfl, hz, hb, hm⟩
       obtain rfl : z = (l, 1) := by simpa using hz
       have HB8 := Lib.hid hb
       have HM8 := Lib.hid hm
       have HS8 := Lib.hid (HA.out.sstay T4 D4 (fun _ => False) _ _ _ _ _ _ _ _ _ _ HS7.out (Sam.of_below hm.bel) (fun _ h => h.elim))
       have HSL : Hid (∀ b, D4 b → b < w7.heap.size) := Lib.hid (HA.out.slt _ _ _ _ _ _ _ _ _ _ _ HS7.out)
       have BW7 := Lib.hid Bw7.size
       have Bw8 := zbt HGS Bw7 hm.bel
       clear Bw7 hz hb hm HS7)
    | (have hgo := Bw8; clear hgo
       go_at_call 16
       refine (HA.out.openYes T8 D8 _ d8 256 0 _ HB8.out (by decide) (by decide)).mono ?_
       rintro e w9 ⟨s9, T9, D9, rfl, hs, hg⟩
       have HS9 := Lib.hid hs
       have HSO := Lib.hid (HA.out.sstay T4 D4 T8 _ _ _ _ _ _ _ _ _ _ HS8.out hg.sam (fun b h hd => by have a := HM8.out.t b h; have c := HSL.out b hd; omega))
       have Bw9 := (hg.bel Bw8 (fun b h => Nat.le_trans BW7.out (HM8.out.t b h))).1
       clear Bw8 hs hg HB8 HS8)
    | (have hgo := Bw9; clear hgo
       go_at_call 15
       refine (holds_any HA.out T4 D4 _ sp dp 256 2000 _ (l, 1) false true _ l 1 HSO.out (HB0.out.below Bw9 (Nat.le_refl _))).mono ?_
       rintro e w10 ⟨rfl, kk⟩
       rw [holdB_self]
       have HS10 := Lib.hid (HA.out.sstay T9 D9 (fun _ => False) _ _ _ _ _ _ _ _ _ _ HS9.out (Sam.of_below kk) (fun _ h => h.elim))
       have Bw10 := zbt HGS Bw9 kk
       clear Bw9 kk HS9)
    | (have hgo := Bw10; clear hgo
       go_at_call 15
       refine (holds_any HA.out T9 D9 _ s9 d8 256 _ _ (l, 1) false true _ l 1 HS10.out (HB0.out.below Bw10 (Nat.le_refl _))).mono ?_
       rintro e w11 ⟨rfl, kk⟩
       rw [holdB_self]
       have Bw11 := zbt HGS Bw10 kk
       clear Bw10 kk HS10)
    | (have hgo := Bw11; clear hgo
       go_at_call 9
       refine (awake16_api HA.out _).mono ?_
       rintro e w12 ⟨rfl, kk⟩
       have Bw12 := Bw11.trans (kk.mono Bw11.size)
       clear Bw11 kk))
  go_ret
  exact ⟨rfl, Bw12⟩
theorem storeKeeps_api (w : World) (vb : Value) (l : List UInt8) (hb : Bs w vb l) (vp : Value) (P : List Int) (hP : NumsK .i64 w vp P) : Calls Try.prog 8 #[vb, vp] w fun e w' => e = .returned (.bool true) ∧ Below w.heap.size w w' := by
  have hb' := hb
  have hP' := hP
  obtain ⟨ab, cb, rfl, _⟩ := hb
  obtain ⟨ap, cp, rfl, _⟩ := hP
  by_cases h1 : (l.length : Int) = 0
  · exact keeps_o1 A w _ _ _ _ _ _ h1
  by_cases h2 : (2000 : Int) < (l.length : Int)
  · exact keeps_o2 A w _ _ _ _ _ _ h1 h2
  by_cases h3 : (10 : Int) < (P.length : Int)
  · exact keeps_o3 A w _ _ _ _ _ _ h1 h2 h3
  exact keeps_in A w _ _ l P hb' hP' (by omega) (by omega) (by omega)
end
end Go.Proofs.Ytefabimolfcllaa
