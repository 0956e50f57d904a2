/- Texts joined: what they are for stands ahead of each. -/
import Derived.Test.YtpilfjdhpahphaaMM2
import Derived.Lib.LazyBuf
import Derived.Shelf.SlIterI.Nil
import Derived.Shelf.SortM.Plain
import Derived.Shelf.SortM.SortNone
set_option linter.unusedSimpArgs false
set_option linter.unusedVariables false

/- The program's device: begin, Write. -/
namespace Go.Proofs.Ytpilfjdhpahphaa
open Go.RowKit Go.Deep
open Go.Maps (Keyed has IsMap)
set_option linter.unusedSimpArgs false
set_option linter.unusedVariables false

theorem ownV_some {w : World} {v : Value} {g n : Nat} {L : Nat → List UInt8} (h : Ims w v g n L) {x : Nat} (hx : v.ownBlock = some x) : x = g := by
  rw [h.own] at hx
  exact (Option.some.inj hx).symm
/-- An image appended to what is pending of block k. -/
theorem BkM.write {y g b n N : Nat} {vg : Value} {pv : Nat → Value} {pb : Nat → Nat} {w0 w1 w2 : World} {good : Nat → List UInt8} {pend : Nat → List (List UInt8)} (h : BkM y g b vg pv pb w0 N n good pend) (hy : y < w0.heap.size) (k : Nat) (hk : k < n) (l : List UInt8) {v' : Value} {g' : Nat}
    (q1 : Ims w1 v' g' ((pend k).length + 1) fun i => if i < (pend k).length then (pend k).getD i [] else l) (q2 : Sam (fun x => (pv k).ownBlock = some x) w0 w1) (q3 : (pv k).ownBlock = some g' ∨ w0.heap.size ≤ g') (q4 : MpAt w2 b (N + 1) n (updF pv k v')) (q5 : Sam (· = b) w1 w2) :
    BkM y g b vg (updF pv k v') (updF pb k g') w2 (N + 1) n good (updF pend k (pend k ++ [l])) := by
  have own : ∀ x, (pv k).ownBlock = some x → pend k ≠ [] ∧ x = pb k := fun x hx => by
    rcases h.pd k hk with ⟨e1, e2⟩ | ⟨e1, e2⟩
    · rw [e2] at hx; cases hx
    · exact ⟨e1, ownV_some e2 hx⟩
  have lt := h.lt hy
  have ne : ∀ x, ownB y g b n pb pend x → (∀ z, (pv k).ownBlock = some z → x ≠ z) → x ≠ g' := fun x hx hz e => by
    rcases q3 with q | q
    · exact hz _ q e
    · have := lt x hx; omega
  have ny : ∀ z, (pv k).ownBlock = some z → y ≠ z := fun z hz e => by obtain ⟨e1, e2⟩ := own z hz; exact (h.py k hk e1).1 (e2.symm.trans e.symm)
  have ng : ∀ z, (pv k).ownBlock = some z → g ≠ z := fun z hz e => by obtain ⟨e1, e2⟩ := own z hz; exact (h.py k hk e1).2.1 (e2.symm.trans e.symm)
  have nb : ∀ z, (pv k).ownBlock = some z → b ≠ z := fun z hz e => by obtain ⟨e1, e2⟩ := own z hz; exact (h.py k hk e1).2.2 (e2.symm.trans e.symm)
  have np : ∀ j, j < n → pend j ≠ [] → j ≠ k → ∀ z, (pv k).ownBlock = some z → pb j ≠ z := fun j hj hp hjk z hz e => by obtain ⟨e1, e2⟩ := own z hz; exact h.pp j k hj hk hp e1 hjk (e.trans e2)
  have hgy := ne y (.inl rfl) ny
  have hgg := ne g (.inr (.inl rfl)) ng
  have hgb := ne b (.inr (.inr (.inl rfl))) nb
  have hgp : ∀ j, j < n → pend j ≠ [] → j ≠ k → pb j ≠ g' := fun j hj hp hjk => ne _ (.inr (.inr (.inr ⟨j, hj, hp, rfl⟩))) (np j hj hp hjk)
  have ap : pend k ++ [l] ≠ [] := by simp
  refine ⟨h.n1, h.nn, (h.lg.sam q2 fun e => ng _ e rfl).sam q5 (fun e => h.gb e), q4, fun j hj => ?_, h.yg, h.yb, h.gb, fun j hj hp => ?_, fun i j hi hj hpi hpj hij => ?_⟩
  · by_cases e : j = k
    · subst e
      simp only [updF, if_true]
      refine .inr ⟨ap, ?_⟩
      rw [List.length_append]
      exact (q1.sam q5 (Ne.symm hgb)).congr fun i hi => by
        show (if i < (pend j).length then (pend j).getD i [] else l) = (pend j ++ [l]).getD i []
        rw [List.getD_eq_getElem?_getD, List.getD_eq_getElem?_getD]
        by_cases h2 : i < (pend j).length
        · rw [if_pos h2, List.getElem?_append_left h2]
        · rw [if_neg h2, List.getElem?_append_right (by omega), show i - (pend j).length = 0 by omega]
          rfl
    · simp only [updF, if_neg e]
      exact (h.pd j hj).imp id fun ⟨e1, e2⟩ => ⟨e1, (e2.sam q2 fun hz => np j hj e1 e _ hz rfl).sam q5 ((h.py j hj e1).2.2)⟩
  · by_cases e : j = k
    · subst e
      simp only [updF, if_true]
      exact ⟨Ne.symm hgy, Ne.symm hgg, Ne.symm hgb⟩
    · simp only [updF, if_neg e] at hp ⊢
      exact h.py j hj hp
  · by_cases e1 : i = k
    · subst e1
      have e2 : ¬ j = i := fun e => hij e.symm
      simp only [updF, if_true, if_neg e2] at hpj ⊢
      exact Ne.symm (hgp j hj hpj e2)
    · by_cases e2 : j = k
      · subst e2
        simp only [updF, if_true, if_neg e1] at hpi ⊢
        exact hgp i hi hpi e1
      · simp only [updF, if_neg e1, if_neg e2] at hpi hpj ⊢
        exact h.pp i j hi hj hpi hpj hij
theorem lrel_bd {S : DS} {rc : Bool} {rl : Int} (h : lrel S rc rl) (hl : (Lit.int .i64 S.left).wf = true) : rc = true → 0 ≤ rl ∧ rl ≤ 9223372036854775807 := fun hc => by
  have hb := bd_i64 hl
  cases ho : S.off with
  | true =>
    have := (h.1 ho).2
    omega
  | false =>
    obtain ⟨h1, h2⟩ := h.2 ho
    rw [hc] at h1
    have := h2 h1.symm
    split at this <;> omega
theorem bk_begin (T D : Nat → Prop) (w : World) (y : Nat) (S : DS) (B : Nat) (h : BkAt T D w y S) (hs : okD S B) (hB : B ≤ 100000) : Calls Try.prog 40 #[.pointer (some ⟨y, 0, none⟩)] w fun e w' => e = .returned (.int .i64 (if opOk S = true then 0 else 10)) ∧ BkAtS 1 T D w' y (opD S) ∧ Sam (· = y) w w' := by
  obtain ⟨g, b, c, pv, pb, rc, rl, N, r_y, hm, hN, hl, hT, hD⟩ := h
  obtain ⟨o1, o2, o3⟩ := lrel_op hl
  obtain ⟨s1, s2, s3, s4⟩ := opD_same S
  have ho := hs.ops
  refine (begin_any y g b S.n c S.ops rc rl S.off w r_y hm.n1 (by omega) (lrel_bd hl hs.left)).mono ?_
  rintro e w1 ⟨rfl, r1, k1⟩
  refine ⟨?_, ⟨g, b, c, pv, pb, rc, _, N, ?_, ?_, ?_, o3, ?_, ?_⟩, k1⟩
  · rw [o1]
    cases (rc && decide (rl = 0)) <;> rfl
  · rw [s1, s4, o2]
    exact r1
  · rw [s1, s2, s3]
    exact hm.sam k1 fun x hx => .inl hx
  · rw [s4]; omega
  · rw [s1, s3]; exact hT
  · rw [s1, s3]; exact hD
theorem bk_has (T D : Nat → Prop) (w : World) (y : Nat) (S : DS) (h : BkAt T D w y S) (k : Int) : Calls Try.prog 38 #[.pointer (some ⟨y, 0, none⟩), .int .i64 k] w fun e w' => e = .returned (.bool (decide (0 ≤ k) && decide (k < (S.n : Int)))) ∧ w' = w := by
  obtain ⟨g, b, c, pv, pb, rc, rl, N, r_y, hm, hN, hl, hT, hD⟩ := h
  exact has_any y g b S.n c S.ops rc rl S.off w r_y k
theorem BkAt.ty {T D : Nat → Prop} {w : World} {y : Nat} {S : DS} (h : BkAt T D w y S) : T y := by
  obtain ⟨g, b, c, pv, pb, rc, rl, N, r_y, hm, hN, hl, hT, hD⟩ := h
  exact (hT y).2 (.inl rfl)
theorem Sam.one {T : Nat → Prop} {w w' : World} {y : Nat} (h : Sam (· = y) w w') (hT : T y) : Sam T w w' := h.mono fun b _ hb => by rw [hb]; exact hT
set_option maxHeartbeats 4000000 in
set_option maxRecDepth 20000 in
theorem write_has (T D : Nat → Prop) (w : World) (y : Nat) (S : DS) (B : Nat) (k : Int) (ad : Option Addr) (n cap : Nat) (h : BkAt T D w y S) (hk : (decide (0 ≤ k) && decide (k < (S.n : Int))) = false) : Calls Try.prog 19 #[.pointer (some ⟨y, 0, none⟩), .int .i64 k, .slice ad n cap] w fun e w' => e = .returned (.int .i64 1) ∧ w' = w := by
  have HB := Lib.hid h
  have HH := Lib.hid hk
  clear h hk
  go_enter Try.func19, Try.ntmps19
  go_wp2_with (first
    | (go_at_call 38
       refine (bk_has T D _ y S HB.out k).mono ?_
       rintro e w1 ⟨rfl, rfl⟩
       rw [HH.out]))
  go_ret
  exact ⟨rfl, rfl⟩
set_option maxHeartbeats 4000000 in
set_option maxRecDepth 20000 in
theorem write_len (T D : Nat → Prop) (w : World) (y : Nat) (S : DS) (B : Nat) (k : Int) (ad : Option Addr) (n cap : Nat) (h : BkAt T D w y S) (hk : (decide (0 ≤ k) && decide (k < (S.n : Int))) = true) (hn : ¬ n = 64) : Calls Try.prog 19 #[.pointer (some ⟨y, 0, none⟩), .int .i64 k, .slice ad n cap] w fun e w' => e = .returned (.int .i64 1) ∧ w' = w := by
  have HB := Lib.hid h
  have HH := Lib.hid hk
  have e1 : ((n : Int) != 64) = true := by simp; omega
  clear h hk hn
  go_enter Try.func19, Try.ntmps19
  go_wp2_with (first
    | (go_at_call 38
       refine (bk_has T D _ y S HB.out k).mono ?_
       rintro e w1 ⟨rfl, rfl⟩
       rw [HH.out]))
  go_ret
  exact ⟨rfl, rfl⟩
set_option maxHeartbeats 4000000 in
set_option maxRecDepth 20000 in
theorem write_off (T D : Nat → Prop) (w : World) (y : Nat) (S : DS) (B : Nat) (k : Int) (ad : Option Addr) (n cap : Nat) (h : BkAt T D w y S) (hs : okD S B) (hB : B ≤ 100000) (hk : (decide (0 ≤ k) && decide (k < (S.n : Int))) = true) (hn : n = 64) (ho : opOk S = false) : Calls Try.prog 19 #[.pointer (some ⟨y, 0, none⟩), .int .i64 k, .slice ad n cap] w fun e w' => e = .returned (.int .i64 10) ∧ BkAt T D w' y (opD S) ∧ Sam (· = y) w w' := by
  subst hn
  have HB := Lib.hid h
  have HH := Lib.hid hk
  have HS := Lib.hid hs
  have HBB := Lib.hid hB
  have HO := Lib.hid ho
  clear h hk hs hB ho
  go_enter Try.func19, Try.ntmps19
  go_wp2_with (first
    | (go_at_call 38
       refine (bk_has T D _ y S HB.out k).mono ?_
       rintro e w1 ⟨rfl, rfl⟩
       rw [HH.out])
    | (have hgo := HBB; clear hgo
       go_at_call 40
       refine (bk_begin T D _ y S B HB.out HS.out HBB.out).mono ?_
       rintro e w2 ⟨rfl, hb, hsm⟩
       rw [if_neg (by rw [HO.out]; decide)]
       have HR := Lib.hid hb
       have HSM := Lib.hid hsm
       clear hb hsm HBB))
  go_ret
  exact ⟨rfl, HR.out.weak, HSM.out⟩
theorem exec_loadA {w : World} (ρ : Operand → Value) (x : Operand) (ty : TypeId) {a : Addr} {f : Nat → Value} (hx : ρ x = .pointer (some a)) (hc : ∀ j, j < 64 → w.cell? (a.add j) = some (f j)) : (execOp ρ (mkOp (.load 64 x) ty)).run Try.prog w = .ok (.value (.agg (arrOf 64 f))) w := by
  obtain ⟨b, off, sp⟩ := a
  have h0 := hc 0 (by omega)
  have hsp : sp = none := by
    cases sp with
    | none => rfl
    | some s =>
      unfold Addr.add at h0
      unfold World.cell? at h0
      split at h0 <;> simp_all
  subst hsp
  exact exec_loadI ρ x ty hx fun j hj => by have := hc j hj; rwa [Addr.add_lit] at this
theorem ims_one (w : World) (l : List UInt8) : Ims (w.alloc (.cells (arrOf 64 (imF l)) 64)) (.slice (some ⟨w.heap.size, 0, none⟩) 1 1) w.heap.size 1 (fun _ => l) :=
  ⟨1, imF l, rfl, Nat.le_refl _, by unfold maxLen; omega, rowIs_arr w 64 (imF l) 64, fun j hj => by
    unfold imC
    rw [show j % 64 = j by omega]⟩
theorem linf_appI {ops : Array Oper} {Q : Exit → Act → World → Prop} {E : World → World → Prop} {L i : Nat} {r : Stp} {a : Act} {w : World} {o : Oper} (d : Nat) (s x : Operand) (t : TypeId) (ho : ops[i]? = some o) (hd : o.dst = some d) (hop : o.op = .call { callee := .builtin .append, args := #[s, x], argTypes := #[60, 60] }) (ht : o.type = t) (hw : Region.wanted o (yielded ops a.tmps) = true)
    {v vb : Value} {n m gb : Nat} {LL M : Nat → List UInt8} (hown : (∃ g, Ims w v g n LL) ∨ (n = 0 ∧ (v = .slice none 0 0 ∨ ∃ g, w.ownsRow g 64 64 v 0 []))) (hb : Ims w vb gb m M) (h0 : 0 < m) (hs : a.eval s = v) (hx : a.eval x = vb) (hlen : n + m ≤ 1000000) (hE : ∀ w1, Sam (fun b => v.ownBlock = some b) w w1 → E w w1)
    (h : ∀ v' w1 g', Ims w1 v' g' (n + m) (fun i => if i < n then LL i else M (i - n)) → Sam (fun b => v.ownBlock = some b) w w1 → (v.ownBlock = some g' ∨ w.heap.size ≤ g') → LinF Try.prog ops Q E L r (a.put (some d) v') w1) : wpOp Try.prog ops Q i (fun a' w' => E w w' ∧ LinF Try.prog ops Q E L r a' w') a w := by
  obtain ⟨v', w1, g', hr, p1, p2, p3⟩ := exec_appI a.eval s x t v vb n m gb LL M hown hb h0 hs hx hlen
  exact linf_made d _ t v' w1 ho hd hop ht hw hr (hE w1 p2) (h v' w1 g' p1 p2 p3)
theorem linf_upd {ops : Array Oper} {Q : Exit → Act → World → Prop} {E : World → World → Prop} {L : Nat} {a : Act} {w : World} {o : Oper} (op : Op) (t : TypeId) (ho : ops[L]? = some o) (hd : o.dst = none) (hop : o.op = op) (ht : o.type = t) (hw : Region.wanted o (yielded ops a.tmps) = true) (R : World → Prop) (hx : ∃ w1, (execOp a.eval (mkOp op t)).run Try.prog w = .ok .skip w1 ∧ R w1) (h : ∀ w1, R w1 → Q .normal a w1) : LinF Try.prog ops Q E L .done a w := by
  obtain ⟨w1, h1, h2⟩ := hx
  exact linf_store op t w1 ho hd hop ht hw h1 (h w1 h2)
theorem wr_own {y g b n k g4 m : Nat} {pb : Nat → Nat} {pend : Nat → List (List UInt8)} {S : DS} {l : List UInt8} {T : Nat → Prop} (hs : n = S.n ∧ pend = S.pend) (hT : ∀ x, T x ↔ ownB y g b (opD S).n pb (opD S).pend x) (hg : T g4 ∨ m ≤ g4) : ∀ x, ownB y g b (wrS S k l).n (updF pb k g4) (wrS S k l).pend x → T x ∨ m ≤ x := by
  obtain ⟨s1, s2, s3, s4⟩ := opD_same S
  rw [s1, s3] at hT
  rintro x (h | h | h | ⟨j, hj, hp, rfl⟩)
  · exact .inl ((hT x).2 (.inl h))
  · exact .inl ((hT x).2 (.inr (.inl h)))
  · exact .inl ((hT x).2 (.inr (.inr (.inl h))))
  · replace hj : j < S.n := by rw [← s1]; exact hj
    replace hp : updF S.pend k (S.pend k ++ [l]) j ≠ [] := hp
    unfold updF at hp ⊢
    by_cases e : j = k
    · rw [if_pos e]; exact hg
    · rw [if_neg e] at hp ⊢
      exact .inl ((hT _).2 (.inr (.inr (.inr ⟨j, hj, hp, rfl⟩))))
set_option maxHeartbeats 4000000 in
set_option maxRecDepth 20000 in
theorem write_ok (T D : Nat → Prop) (w : World) (y : Nat) (S : DS) (B k : Nat) (ax : Addr) (cap : Nat) (l : List UInt8) (h : BkAt T D w y S) (hs : okD S B) (hB : B ≤ 100000) (hk : k < S.n) (hl : BsK T w (.slice (some ax) 64 cap) l) (ho : opOk S = true) : Calls Try.prog 19 #[.pointer (some ⟨y, 0, none⟩), .int .i64 (k : Int), .slice (some ax) 64 cap] w fun e w' => e = .returned (.int .i64 0) ∧ BkNew BkAt T D w y (wrS S k l) w' := by
  have HB := Lib.hid h
  have HH : Hid ((decide (0 ≤ (k : Int)) && decide ((k : Int) < (S.n : Int))) = true) := Lib.hid (by simp; omega)
  have HS := Lib.hid hs
  have HBB := Lib.hid hB
  have HB9 := Lib.hid hB
  have HO := Lib.hid ho
  have HK0 := Lib.hid hk
  have HL := Lib.hid hl
  have HTY := Lib.hid h.ty
  clear h hk hs hB ho hl
  go_enter Try.func19, Try.ntmps19
  go_wp2_with (first
    | (go_at_call 38
       refine (bk_has T D _ y S HB.out (k : Int)).mono ?_
       rintro e w1 ⟨rfl, rfl⟩
       rw [HH.out])
    | (have hgo := HBB; clear hgo
       go_at_call 40
       refine (bk_begin T D _ y S B HB.out HS.out HBB.out).mono ?_
       rintro e w2 ⟨rfl, hb, hsm⟩
       rw [if_pos HO.out]
       have HR := Lib.hid hb
       have HSM := Lib.hid hsm
       clear hb hsm HBB))
  obtain ⟨g, b, c, pv, pb, rc, rl, N, r_y, hm, hN, hlr, hT, hD⟩ := HR.out
  obtain ⟨s1, s2, s3, s4⟩ := opD_same S
  obtain ⟨n, hn⟩ : ∃ n, n = (opD S).n := ⟨_, rfl⟩
  obtain ⟨pend, hpe⟩ : ∃ pend, pend = (opD S).pend := ⟨_, rfl⟩
  rw [← hn, ← hpe] at hm
  rw [← hn] at r_y
  have HK : Hid (k < n) := Lib.hid (by rw [hn, s1]; exact HK0.out)
  have HM := Lib.hid hm
  obtain ⟨ak, ck, hck⟩ := hm.look k HK.out
  have HC := Lib.hid hck
  have own : ∀ x, (pv k).ownBlock = some x → pend k ≠ [] ∧ x = pb k := fun x hx => by
    rcases hm.pd k HK.out with ⟨e1, e2⟩ | ⟨e1, e2⟩
    · rw [e2] at hx; cases hx
    · exact ⟨e1, ownV_some e2 hx⟩
  have HFY : Hid (¬ (pv k).ownBlock = some y) := Lib.hid fun e => by obtain ⟨e1, e2⟩ := own _ e; exact (hm.py k HK.out e1).1 e2.symm
  have HFB : Hid (¬ (pv k).ownBlock = some b) := Lib.hid fun e => by obtain ⟨e1, e2⟩ := own _ e; exact (hm.py k HK.out e1).2.2 e2.symm
  have FT : ∀ x, (pv k).ownBlock = some x → T x := fun x hx => by obtain ⟨e1, e2⟩ := own _ hx; exact (hT x).2 (.inr (.inr (.inr ⟨k, by rw [← hn]; exact HK.out, by rw [← hpe]; exact e1, e2⟩)))
  have HLB : Hid (∀ wx, Sam (fun x => (pv k).ownBlock = some x) w2 wx → ∀ j, j < 64 → wx.cell? (ax.add j) = some (imF l j)) := Lib.hid fun wx hx j hj => by
    obtain ⟨a', cap', he, f1, f2, f3, f4⟩ := HL.out _ ((HSM.out.one HTY.out).trans (hx.mono fun x _ => FT x))
    injection he with he1 he2 he3
    obtain ⟨f5, f6⟩ := f4 ax (by rw [← he1]) j (by omega)
    rw [f6]
    unfold imF
    rw [List.getD_eq_getElem?_getD, List.getElem?_eq_getElem (by omega)]
    rfl
  have HP : Hid ((pend k).length ≤ 100000) := Lib.hid (by rw [hpe, s3]; exact Nat.le_trans (HS.out.cnt k) HB9.out)
  have AP : Hid (∀ wx, Below w2.heap.size w2 wx → (∃ g, Ims wx (.slice ak (pend k).length ck) g (pend k).length fun i => (pend k).getD i []) ∨ ((pend k).length = 0 ∧ (Value.slice ak (pend k).length ck = .slice none 0 0 ∨ ∃ g, wx.ownsRow g 64 64 (.slice ak (pend k).length ck) 0 []))) := Lib.hid fun wx hx => by
    rcases HM.out.pd k HK.out with ⟨e1, e2⟩ | ⟨e1, e2⟩
    · exact .inr ⟨by rw [e1]; rfl, .inl (by rw [← HC.out]; exact e2)⟩
    · exact .inl ⟨_, by rw [← HC.out]; exact e2.bel hx⟩
  have HT := Lib.hid hT
  have HD := Lib.hid hD
  have HNN := Lib.hid hN
  have HLR := Lib.hid hlr
  have HSN : Hid (n = S.n ∧ pend = S.pend) := Lib.hid ⟨hn.trans s1, hpe.trans s3⟩
  have HON := Lib.hid own
  have HFT := Lib.hid FT
  have HYL := Lib.hid r_y.lt
  clear hm hN hlr hT hD hn hpe s1 s2 s3 s4 own FT hck
  have HE : Sam (fun x => (pv k).ownBlock = some x) w2 w2.drew := (Sam.refl _ _).drew
  refine wp_region_linf (Sam (fun x => (pv k).ownBlock = some x)) (fun w => Sam.refl _ w) (fun _ _ _ h k => h.trans k) 16 20 (.rd 0 (.rd 1 (.rd 2 (.rd 3 (.rd 4 (.rd 5 (.rd 6 (.rd 7 (.rd 8 (.rd 9 (.rd 10 (.rd 11 (.rd 12 (.rd 13 (.wr 14 (.wr 15 .done)))))))))))))))) (by kernel_rfl) (by kernel_rfl) (by decide) (by kernel_rfl) (fun d _ _ _ _ h => by cases d <;> exact h) ?_
  refine linf_pure 22 _ _ (.pointer (some ⟨y, 0, none⟩)) rfl rfl rfl rfl rfl (fun wx hx => by unfold mkOp; go_simp; all_goals (with_reducible rfl)) ?_
  simp only [Act.put, zA, zB, zC]
  refine linf_pure 23 _ _ (.pointer (some ⟨y, 0, none⟩)) rfl rfl rfl rfl rfl (fun wx hx => by unfold mkOp; go_simp; all_goals (with_reducible rfl)) ?_
  simp only [Act.put, zA, zB, zC]
  refine linf_pure 24 _ _ (.pointer (some ⟨y, 1, none⟩)) rfl rfl rfl rfl rfl (fun wx hx => by unfold mkOp; go_simp; all_goals (with_reducible rfl)) ?_
  simp only [Act.put, zA, zB, zC]
  refine linf_pure 25 _ _ (.map (some b)) rfl rfl rfl rfl rfl (fun wx hx => exec_loadG _ _ _ _ (.map (some b)) r_y (HE.trans hx) HFY.out rfl (by omega) rfl (by kernel_rfl)) ?_
  simp only [Act.put, zA, zB, zC]
  refine linf_pure 26 _ _ (.int .i64 (k : Int)) rfl rfl rfl rfl rfl (fun wx hx => by unfold mkOp; go_simp; all_goals (with_reducible rfl)) ?_
  simp only [Act.put, zA, zB, zC]
  refine linf_pure 27 _ _ (.pointer (some ⟨y, 0, none⟩)) rfl rfl rfl rfl rfl (fun wx hx => by unfold mkOp; go_simp; all_goals (with_reducible rfl)) ?_
  simp only [Act.put, zA, zB, zC]
  refine linf_pure 28 _ _ (.pointer (some ⟨y, 0, none⟩)) rfl rfl rfl rfl rfl (fun wx hx => by unfold mkOp; go_simp; all_goals (with_reducible rfl)) ?_
  simp only [Act.put, zA, zB, zC]
  refine linf_pure 29 _ _ (.pointer (some ⟨y, 1, none⟩)) rfl rfl rfl rfl rfl (fun wx hx => by unfold mkOp; go_simp; all_goals (with_reducible rfl)) ?_
  simp only [Act.put, zA, zB, zC]
  refine linf_pure 30 _ _ (.map (some b)) rfl rfl rfl rfl rfl (fun wx hx => exec_loadG _ _ _ _ (.map (some b)) r_y (HE.trans hx) HFY.out rfl (by omega) rfl (by kernel_rfl)) ?_
  simp only [Act.put, zA, zB, zC]
  refine linf_pure 31 _ _ (.int .i64 (k : Int)) rfl rfl rfl rfl rfl (fun wx hx => by unfold mkOp; go_simp; all_goals (with_reducible rfl)) ?_
  simp only [Act.put, zA, zB, zC]
  refine linf_pure 32 _ _ (.slice ak (pend k).length ck) rfl rfl rfl rfl rfl (fun wx hx => by rw [← HC.out]; exact exec_lookM _ _ _ _ (HM.out.mp.sam (HE.trans hx) HFB.out) rfl rfl HK.out (by have := HM.out.nn; omega)) ?_
  simp only [Act.put, zA, zB, zC]
  refine linf_pure 33 _ _ (.slice (some ax) 64 cap) rfl rfl rfl rfl rfl (fun wx hx => by unfold mkOp; go_simp; all_goals (with_reducible rfl)) ?_
  simp only [Act.put, zA, zB, zC]
  refine linf_pure 34 _ _ (.pointer (some ax)) rfl rfl rfl rfl rfl (fun wx hx => exec_s2a _ _ _ rfl rfl) ?_
  simp only [Act.put, zA, zB, zC]
  refine linf_pure 35 _ _ (.agg (arrOf 64 (imF l))) rfl rfl rfl rfl rfl (fun wx hx => exec_loadA _ _ _ rfl (HLB.out _ (HE.trans hx))) ?_
  simp only [Act.put, zA, zB, zC]
  refine linf_made 36 _ _ _ _ rfl rfl rfl rfl rfl (exec_oneI _ _ _ rfl) (Sam.of_below ((Below.refl _ _).alloc (Nat.le_refl _) _)) ?_
  have hal : Sam (fun x => (pv k).ownBlock = some x) w2.drew (w2.drew.alloc (.cells (arrOf 64 (imF l)) 64)) := Sam.of_below ((Below.refl _ _).alloc (Nat.le_refl _) _)
  have r_o : Ims (w2.drew.alloc (.cells (arrOf 64 (imF l)) 64)) (.slice (some ⟨w2.drew.heap.size, 0, none⟩) 1 1) w2.drew.heap.size 1 (fun _ => l) := ims_one _ _
  replace HE := HE.trans hal
  have hbl : Below w2.heap.size w2 (w2.drew.alloc (.cells (arrOf 64 (imF l)) 64)) := ((Below.refl _ _).drew).alloc (Nat.le_refl _) _
  generalize hw3 : (w2.drew.alloc (.cells (arrOf 64 (imF l)) 64)) = w3 at r_o HE hbl ⊢
  have hws : w2.drew.heap.size = w2.heap.size := rfl
  rw [hws] at r_o ⊢
  clear hal hws
  simp only [Act.put, zA, zB, zC]
  refine linf_appI 37 (.tmp 32) (.tmp 36) _ rfl rfl rfl rfl rfl (AP.out _ hbl) r_o (by omega) rfl rfl (by have := HP.out; omega) (fun wx hx => by rw [← HC.out] at hx; exact hx) ?_
  intro v4 w4 g4 p1 p2 p3
  rw [← HC.out] at p2 p3
  replace HE := HE.trans p2
  simp only [Act.put, zA, zB, zC]
  refine linf_upd _ _ rfl rfl rfl rfl rfl _ (exec_updM _ _ _ _ _ (v := v4) (HM.out.mp.sam HE HFB.out) rfl rfl rfl HK.out (by have := HM.out.nn; omega) (fun e => by rw [e] at p1; obtain ⟨_, e2, _⟩ := p1.shape; cases e2) (by have := HNN.out; have := HS.out.ops; have := HB9.out; have := (opD_same S).2.2.2; unfold maxLen; omega)) ?_
  rintro w5 ⟨u1, u2⟩
  have HU := Lib.hid (HM.out.write HYL.out k HK.out l p1 HE (p3.imp id fun h => Nat.le_trans hbl.size h) u1 u2)
  have r5 := Sam.row (Sam.row r_y HE HFY.out) u2 (HM.out.yb)
  have HS5 := Lib.hid ((HSM.out.one HTY.out).trans ((HE.mono fun x _ => HFT.out x).trans (u2.mono fun x _ e => (HT.out x).2 (.inr (.inr (.inl e))))))
  have HG4 := Lib.hid (p3.imp (fun h => HFT.out _ h) fun h => Nat.le_trans HSM.out.size (Nat.le_trans hbl.size h))
  have HSZ := Lib.hid HSM.out.size
  clear p1 p2 p3 u1 u2 HE hw3 hbl r_o r_y
  go_wp2
  go_ret
  refine ⟨rfl, _, _, ⟨g, b, c, updF pv k v4, updF pb k g4, rc, rl, N + 1, ?_, ?_, by have := HNN.out; show N + 1 + 0 ≤ (opD S).ops; omega, HLR.out, fun x => Iff.rfl, fun x => Iff.rfl⟩, HS5.out, ?_, ?_⟩
  · have r6 := r5
    rw [HSN.out.1] at r6
    show w5.rowIs y 67 6 (devF (.slice (some ⟨g, 0, none⟩) (opD S).n c) (.map (some b)) (opD S).ops rc rl (opD S).off)
    rw [(opD_same S).1]
    exact r6
  · have hu := HU.out
    rw [HSN.out.1, HSN.out.2] at hu
    show BkM y g b (.slice (some ⟨g, 0, none⟩) (opD S).n c) _ _ w5 (N + 1) (opD S).n (opD S).good (updF S.pend k (S.pend k ++ [l]))
    rw [(opD_same S).1]
    exact hu
  · exact wr_own HSN.out HT.out HG4.out
  · exact wr_own HSN.out HD.out (HG4.out.imp (fun h => (HD.out _).2 ((HT.out _).1 h)) id)
end Go.Proofs.Ytpilfjdhpahphaa

/- The program's device: Flush. -/
namespace Go.Proofs.Ytpilfjdhpahphaa
open Go.RowKit Go.Deep
open Go.Maps (Keyed has IsMap)
set_option linter.unusedSimpArgs false
set_option linter.unusedVariables false

/-- An image is stored into a slice of images. -/
theorem exec_storeI {w : World} (ρ : Operand → Value) (x y : Operand) (ty : TypeId) {v : Value} {g n k : Nat} {L : Nat → List UInt8} {l : List UInt8} (h : Ims w v g n L) (hx : ρ x = .pointer (some ⟨g, k * 64, none⟩)) (hy : ρ y = imV l) (hk : k < n) :
    ∃ w', (execOp ρ (mkOp (.store 64 x y) ty)).run Try.prog w = .ok .skip w' ∧ Ims w' v g n (updF L k l) ∧ Sam (· = g) w w' := by
  obtain ⟨c, f, h1, h2, h3, hr, h4⟩ := h
  obtain ⟨w', e1, e2, e3, e4⟩ := exec_store_arr (P := Try.prog) ρ 64 x y ty hr hx hy isImg (by omega) (fun j _ => rfl)
  refine ⟨w', e1, ⟨c, _, h1, h2, h3, e2, fun j hj => ?_⟩, Sam.of_grown e3 fun b hb => (Option.some.inj hb).symm⟩
  unfold putN imC updF
  by_cases e : k * 64 ≤ j ∧ j < k * 64 + 64
  · rw [if_pos e, if_pos (by omega), show j % 64 = j - k * 64 by omega]
  · rw [if_neg e, if_neg (by omega), h4 j hj]
    rfl
/-- The blocks as a flush under way has them: those still to come as they were. -/
def flL (good : Nat → List UInt8) (pend : Nat → List (List UInt8)) (left : Nat → Bool) : Nat → List UInt8 := fun k => if left k = true then good k else if (pend k).length = 0 then good k else (pend k).getD ((pend k).length - 1) []
theorem flL_start {good : Nat → List UInt8} {pend : Nat → List (List UInt8)} {pv : Nat → Value} {left : Nat → Bool} {n : Nat} (h : ∀ k, k < n → (left k = true ↔ pv k ≠ nilV)) (hp : ∀ k, k < n → pend k ≠ [] → pv k ≠ nilV) : ∀ k, k < n → good k = flL good pend left k := fun k hk => by
  unfold flL
  by_cases e : left k = true
  · rw [if_pos e]
  · have : pend k = [] := Classical.byContradiction fun hn => e ((h k hk).2 (hp k hk hn))
    rw [if_neg e, this]
    rfl
theorem flL_step {good : Nat → List UInt8} {pend : Nat → List (List UInt8)} {left : Nat → Bool} {k : Nat} (hp : ¬ (pend k).length = 0) : ∀ j, updF (flL good pend left) k ((pend k).getD ((pend k).length - 1) []) j = flL good pend (fun j => left j && !(j == k)) j := fun j => by
  unfold updF flL
  by_cases e : j = k
  · subst e
    simp [hp]
  · have e2 : (j == k) = false := by simp [e]
    simp [e, e2]
theorem flL_end {good : Nat → List UInt8} {pend : Nat → List (List UInt8)} {left : Nat → Bool} {n : Nat} (h : ∀ k, k < n → left k = false) : ∀ k, k < n → flL good pend left k = if (pend k).length = 0 then good k else (pend k).getD ((pend k).length - 1) [] := fun k hk => by
  unfold flL
  rw [h k hk]
  simp
theorem BkM.good {y g b n N : Nat} {vg : Value} {pv : Nat → Value} {pb : Nat → Nat} {w w' : World} {good L : Nat → List UInt8} {pend : Nat → List (List UInt8)} (h : BkM y g b vg pv pb w N n good pend) (q : Ims w' vg g n L) (k : Sam (· = g) w w') : BkM y g b vg pv pb w' N n L pend :=
  ⟨h.n1, h.nn, q, h.mp.sam k (fun e => h.gb e.symm), fun i hi => (h.pd i hi).imp id fun ⟨e1, e2⟩ => ⟨e1, e2.sam k (h.py i hi e1).2.1⟩, h.yg, h.yb, h.gb, h.py, h.pp⟩
theorem BkM.pvn {y g b n N : Nat} {vg : Value} {pv : Nat → Value} {pb : Nat → Nat} {w : World} {good : Nat → List UInt8} {pend : Nat → List (List UInt8)} (h : BkM y g b vg pv pb w N n good pend) (k : Nat) (hk : k < n) : pend k ≠ [] ↔ pv k ≠ nilV := by
  rcases h.pd k hk with ⟨e1, e2⟩ | ⟨e1, e2⟩
  · exact ⟨fun h => absurd e1 h, fun h => absurd e2 h⟩
  · exact ⟨fun _ e => (by rw [e] at e2; obtain ⟨_, e3, _⟩ := e2.shape; cases e3), fun _ => e1⟩
theorem flush_step {y g b n N c r k cnt : Nat} {pv : Nat → Value} {pb : Nat → Nat} {w3 wf w5 : World} {good : Nat → List UInt8} {pend : Nat → List (List UInt8)} {left : Nat → Bool} (hm : BkM y g b (.slice (some ⟨g, 0, none⟩) n c) pv pb w3 N n (flL good pend left) pend) (hr : Rg w3 b r N n pv (fun j => left j && !(j == k)) cnt) (he : Sam (fun _ => False) w3 wf)
    (u1 : Ims w5 (.slice (some ⟨g, 0, none⟩) n c) g n (updF (flL good pend left) k ((pend k).getD ((pend k).length - 1) []))) (u2 : Sam (· = g) wf w5) (hp : ¬ (pend k).length = 0) (hrn : ¬ ownB y g b n pb pend r) :
    Rg w5 b r N n pv (fun j => left j && !(j == k)) cnt ∧ BkM y g b (.slice (some ⟨g, 0, none⟩) n c) pv pb w5 N n (flL good pend fun j => left j && !(j == k)) pend :=
  ⟨(hr.sam he (fun h => h) fun h => h).sam u2 (fun e => hm.gb e.symm) fun e => hrn (.inr (.inl e)), (hm.sam he fun _ h => h.elim).good (u1.congr fun i _ => flL_step hp i) u2⟩
theorem flush_end {T D : Nat → Prop} {y g b n N c r b2 : Nat} {pv : Nat → Value} {pb : Nat → Nat} {w w2 wr w4 w5 : World} {good : Nat → List UInt8} {pend : Nat → List (List UInt8)} {left : Nat → Bool} {S : DS} {rc : Bool} {rl : Int} (hm4 : BkM y g b (.slice (some ⟨g, 0, none⟩) n c) pv pb w4 N n (flL good pend left) pend) (hdn : ∀ k, k < n → left k = false) (hmb : MpAt w4 b2 0 n fun _ => nilV)
    (lb : wr.heap.size ≤ b2) (hyl : y < w2.heap.size) (hgl : g < w2.heap.size) (r_y : w5.rowIs y 67 6 (devF (.slice (some ⟨g, 0, none⟩) n c) (.map (some b2)) (opD S).ops rc rl (opD S).off)) (hsm : Sam (· = y) w w2) (hsr : Sam (fun x => x = g ∨ x = r) w2 wr) (hrr : r = w2.heap.size) (hs4 : Sam (fun _ => False) wr w4) (hs5 : Sam (· = y) w4 w5)
    (hn : n = (opD S).n) (hpe : pend = (opD S).pend) (hgo : good = (opD S).good) (hs1 : (opD S).n = S.n) (hlr : lrel (opD S) rc rl) (hT : ∀ x, T x ↔ ownB y g b n pb pend x) (hD : ∀ x, D x ↔ ownB y g b n pb pend x) : BkNew BkAt T D w y (flI (opD S) S.n) w5 := by
  have l1 := hsr.size
  have l0 := hsm.size
  have yb2 : y ≠ b2 := by omega
  have gb2 : g ≠ b2 := by omega
  have hnn : n = S.n := hn.trans hs1
  have ty : T y := (hT y).2 (.inl rfl)
  have tg : T g := (hT g).2 (.inr (.inl rfl))
  have hfn : (flI (opD S) S.n).n = n := hn.symm
  have fp : ∀ k, k < n → (flI (opD S) S.n).pend k = [] := fun k hk => if_pos (by omega)
  have fg : ∀ k, k < n → flL good pend left k = (flI (opD S) S.n).good k := fun k hk => by
    rw [flL_end hdn k hk, hpe, hgo]
    have e : k < S.n := by omega
    show _ = if k < S.n then nowS (opD S) k else _
    rw [if_pos e]
    rfl
  have own : ∀ (X : Nat → Prop), (∀ x, X x ↔ ownB y g b n pb pend x) → ∀ x, ownB y g b2 (flI (opD S) S.n).n pb (flI (opD S) S.n).pend x → X x ∨ w.heap.size ≤ x := by
    rintro X hX x (h | h | h | ⟨k, hk, hp, _⟩)
    · exact .inl ((hX x).2 (.inl h))
    · exact .inl ((hX x).2 (.inr (.inl h)))
    · right; omega
    · exact absurd (fp k (by rw [← hfn]; exact hk)) hp
  refine ⟨_, _, ⟨g, b2, c, fun _ => nilV, pb, rc, rl, 0, ?_, ?_, Nat.zero_le _, hlr, fun x => Iff.rfl, fun x => Iff.rfl⟩, ?_, own T hT, own D hD⟩
  · rw [hfn]
    exact r_y
  · rw [hfn]
    exact ⟨hm4.n1, hm4.nn, (hm4.lg.sam hs5 fun e => hm4.yg e.symm).congr fg, hmb.sam hs5 fun e => yb2 e.symm, fun k hk => .inl ⟨fp k hk, rfl⟩, hm4.yg, yb2, gb2, fun k hk hp => absurd (fp k hk) hp, fun j k hj hk hp => absurd (fp j hj) hp⟩
  · refine (hsm.one ty).trans (Sam.trans (b := wr) (hsr.mono fun x hx hxx => ?_) ((hs4.mono fun _ _ h => h.elim).trans (hs5.one ty)))
    rcases hxx with rfl | rfl
    · exact tg
    · omega
set_option maxHeartbeats 4000000 in
set_option maxRecDepth 20000 in
theorem flush_off (T D : Nat → Prop) (w : World) (y : Nat) (S : DS) (B : Nat) (h : BkAt T D w y S) (hs : okD S B) (hB : B ≤ 100000) (ho : opOk S = false) : Calls Try.prog 20 #[.pointer (some ⟨y, 0, none⟩)] w fun e w' => e = .returned (.int .i64 10) ∧ BkAt T D w' y (opD S) ∧ Sam (· = y) w w' := by
  have HB := Lib.hid h
  have HS := Lib.hid hs
  have HBB := Lib.hid hB
  have HO := Lib.hid ho
  clear h hs hB ho
  go_enter Try.func20, Try.ntmps20
  go_wp2_with (first
    | (have hgo := HBB; clear hgo
       go_at_call 40
       refine (bk_begin T D _ y S B HB.out HS.out HBB.out).mono ?_
       rintro e w2 ⟨rfl, hb, hsm⟩
       rw [if_neg (by rw [HO.out]; decide)]
       have HR := Lib.hid hb
       have HSM := Lib.hid hsm
       clear hb hsm HBB))
  go_ret
  exact ⟨rfl, HR.out.weak, HSM.out⟩
theorem beginN_any (w : World) : Calls Try.prog 40 #[.pointer none] w fun e w' => e = .returned (.int .i64 10) ∧ w' = w := by
  go_enter Try.func40, Try.ntmps40
  go_wp2_with (first
    | (go_at_call 22
       refine (lenN_any _).mono ?_
       rintro e w1 ⟨rfl, rfl⟩))
  go_ret
  exact ⟨rfl, rfl⟩
theorem flushN_any (w : World) : Calls Try.prog 20 #[.pointer none] w fun e w' => e = .returned (.int .i64 10) ∧ w' = w := by
  go_enter Try.func20, Try.ntmps20
  go_wp2_with (first
    | (go_at_call 40
       refine (beginN_any _).mono ?_
       rintro e w1 ⟨rfl, rfl⟩))
  go_ret
  exact ⟨rfl, rfl⟩
set_option maxHeartbeats 4000000 in
set_option maxRecDepth 20000 in
theorem flush_ok (T D : Nat → Prop) (w : World) (y : Nat) (S : DS) (B : Nat) (h : BkAt T D w y S) (hs : okD S B) (hB : B ≤ 100000) (ho : opOk S = true) : Calls Try.prog 20 #[.pointer (some ⟨y, 0, none⟩)] w fun e w' => e = .returned (.int .i64 0) ∧ BkNew BkAt T D w y (flI (opD S) S.n) w' := by
  have HB := Lib.hid h
  have HS := Lib.hid hs
  have HBB := Lib.hid hB
  have HB9 := Lib.hid hB
  have HO := Lib.hid ho
  have HTY := Lib.hid h.ty
  clear h hs hB ho
  have HS1 := Lib.hid (opD_same S)
  go_enter Try.func20, Try.ntmps20
  go_wp2_with (first
    | (have hgo := HBB; clear hgo
       go_at_call 40
       refine (bk_begin T D _ y S B HB.out HS.out HBB.out).mono ?_
       rintro e w2 ⟨rfl, hb, hsm⟩
       rw [if_pos HO.out]
       obtain ⟨g, b, c, pv, pb, rc, rl, N, r_y, hm, hN, hlr, hT, hD⟩ := hb
       obtain ⟨n, hn⟩ : ∃ n, n = (opD S).n := ⟨_, rfl⟩
       obtain ⟨pend, hpe⟩ : ∃ pend, pend = (opD S).pend := ⟨_, rfl⟩
       obtain ⟨good, hgo⟩ : ∃ good, good = (opD S).good := ⟨_, rfl⟩
       rw [← hn, ← hpe, ← hgo] at hm
       rw [← hn] at r_y
       rw [← hn, ← hpe] at hT hD
       have HM := Lib.hid hm
       have HT := Lib.hid hT
       have HD := Lib.hid hD
       have HLR := Lib.hid hlr
       have HNN := Lib.hid hN
       have HN := Lib.hid hn
       have HPE := Lib.hid hpe
       have HGO := Lib.hid hgo
       have HSM := Lib.hid hsm
       have HYL := Lib.hid r_y.lt
       have HOW := Lib.hid (hm.lt r_y.lt)
       clear hm hT hD hlr hN hn hpe hgo hsm HBB)
    | (refine wpList_loadG 65 (.tmp 13) rfl rfl (.map (some b)) r_y rfl (by omega) rfl (by kernel_rfl) ?_)
    | (refine wrangeM rfl (.tmp 14) rfl HM.out.mp rfl ?_
       intro w3 left0 cnt0 hrg hle _ kk
       have HRG := Lib.hid hrg
       have HLE := Lib.hid hle
       have HR3 : Hid (Sam (fun x => x = g ∨ x = w2.heap.size) w2 w3) := Lib.hid (Sam.of_below kk)
       have HM3 := Lib.hid (HM.out.bel kk)
       have r3 := zrb r_y kk
       clear hrg hle kk))
  go_frame
  obtain ⟨r, hr⟩ : ∃ r, r = w2.heap.size := ⟨_, rfl⟩
  rw [← hr] at HRG HR3 ⊢
  have HRR := Lib.hid hr
  have HRN : Hid (¬ ownB y g b n pb pend r) := Lib.hid fun h => by have := HOW.out r h; omega
  have HPL : Hid (∀ k, k < n → (pend k).length < 1000000000) := Lib.hid fun k hk => by
    rw [HPE.out, HS1.out.2.2.1]
    have := HS.out.cnt k
    have := HB9.out
    omega
  clear hr r_y
  go_loopw [4] (fun _ wr => ∃ left cnt, Rg wr b r N n pv left cnt ∧ BkM y g b (.slice (some ⟨g, 0, none⟩) n c) pv pb wr N n (flL good pend left) pend ∧ wr.rowIs y 67 6 (devF (.slice (some ⟨g, 0, none⟩) n c) (.map (some b)) (opD S).ops rc rl (opD S).off) ∧ Sam (fun x => x = g ∨ x = r) w2 wr)
    (fun _ wr => wr.rangeLeft b r)
  case atStart =>
    exact ⟨left0, cnt0, HRG.out, HM3.out.good (HM3.out.lg.congr (flL_start HLE.out fun k hk => (HM3.out.pvn k hk).1)) (Sam.refl _ _), r3, HR3.out⟩
  case round =>
    clear HRG HLE HR3 HM3 r3
    obtain ⟨left, cnt, hrg, hmr, r_y, hsr⟩ := hrel
    have HRG := Lib.hid hrg
    have HMR := Lib.hid hmr
    have HSR := Lib.hid hsr
    clear hrg hmr hsr
    go_wp2_with (first
      | (refine wnextM rfl (.tmp 15) rfl HRG.out rfl ?_ ?_))
    · intro hdone
      have HDN := Lib.hid hdone
      have HST1 := Lib.hid True.intro
      have HST2 := Lib.hid True.intro
      clear hdone
      go_wp2_with (first
        | (have hgo := HST1; clear hgo
           refine wmakeM rfl none rfl (fun _ h => by cases h) n ?_
           intro b2 w4 lb m_b kk
           have L_b := Lib.hid lb
           have HMB := Lib.hid m_b
           have HM4 := Lib.hid (HMR.out.bel kk)
           replace r_y := zrb r_y kk
           have HS4 : Hid (Sam (fun _ => False) wr w4) := Lib.hid (Sam.of_below kk)
           clear kk lb m_b HST1)
        | (have hgo := HST2; clear hgo
           refine wpList_storeG 65 (.tmp 35) (.tmp 33) rfl rfl (devF (.slice (some ⟨g, 0, none⟩) n c) (.map (some b2)) (opD S).ops rc rl (opD S).off) r_y rfl rfl (by kernel_rfl) rfl rfl (by omega) (six rfl rfl rfl rfl rfl rfl) ?_
           intro w5 q_n s_5
           replace r_y := q_n
           have HS5 := Lib.hid s_5
           clear HST2 q_n s_5))
      go_ret
      exact ⟨rfl, flush_end HM4.out HDN.out HMB.out L_b.out HYL.out HM.out.lg.lt r_y HSM.out HSR.out HRR.out HS4.out HS5.out HN.out HPE.out HGO.out HS1.out.1 HLR.out HT.out HD.out⟩
    · intro k w3 cnt' hk hl hp hrg3 hlt hs3 hen
      have HK := Lib.hid hk
      obtain ⟨ak, ck, hck⟩ := HMR.out.look k hk
      rw [hck] at hen
      have HC := Lib.hid hck
      have HP0 : Hid (¬ (pend k).length = 0) := Lib.hid fun e => (HMR.out.pvn k HK.out).2 hp (List.eq_nil_of_length_eq_zero e)
      have HM3 := Lib.hid (HMR.out.sam hs3 fun x hx => .inr (by rw [hx]; exact HRN.out))
      have HR3 := Lib.hid hrg3
      have HL3 := Lib.hid hlt
      have HS3 := Lib.hid hs3
      have r3 := Sam.row r_y hs3 (fun e => HRN.out (.inl e.symm))
      clear hk hck hp hrg3 hlt hs3 r_y hl
      go_wp2
      have HE : Sam (fun _ => False) w3 w3.drew := (Sam.refl _ _).drew
      refine wp_region_linf (Sam (fun _ => False)) (fun w => Sam.refl _ w) (fun _ _ _ h k => h.trans k) 11 20 (.rd 0 (.rd 1 (.rd 2 (.rd 3 (.rd 4 (.rd 5 (.rd 6 (.rd 7 (.rd 8 (.wr 9 (.rd 10 .done))))))))))) (by kernel_rfl) (by kernel_rfl) (by decide) (by kernel_rfl) (fun d _ _ _ _ h => by cases d <;> exact h) ?_
      refine linf_pure 21 _ _ (.pointer (some ⟨y, 0, none⟩)) rfl rfl rfl rfl rfl (fun wx hx => by unfold mkOp; go_simp; all_goals (with_reducible rfl)) ?_
      simp only [Act.put, zA, zB, zC]
      refine linf_pure 22 _ _ (.pointer (some ⟨y, 0, none⟩)) rfl rfl rfl rfl rfl (fun wx hx => by unfold mkOp; go_simp; all_goals (with_reducible rfl)) ?_
      simp only [Act.put, zA, zB, zC]
      refine linf_pure 23 _ _ (.pointer (some ⟨y, 0, none⟩)) rfl rfl rfl rfl rfl (fun wx hx => by unfold mkOp; go_simp; all_goals (with_reducible rfl)) ?_
      simp only [Act.put, zA, zB, zC]
      refine linf_pure 24 _ _ (.slice (some ⟨g, 0, none⟩) n c) rfl rfl rfl rfl rfl (fun wx hx => exec_loadG _ _ _ _ _ r3 (HE.trans hx) (fun h => h) rfl (by omega) rfl (by kernel_rfl)) ?_
      simp only [Act.put, zA, zB, zC]
      refine linf_pure 25 _ _ (.int .i64 (k : Int)) rfl rfl rfl rfl rfl (fun wx hx => by unfold mkOp; go_simp; all_goals (with_reducible rfl)) ?_
      simp only [Act.put, zA, zB, zC]
      refine linf_pure 26 _ _ (.pointer (some ⟨y, 0, none⟩)) rfl rfl rfl rfl rfl (fun wx hx => by unfold mkOp; go_simp; all_goals (with_reducible rfl)) ?_
      simp only [Act.put, zA, zB, zC]
      refine linf_pure 27 _ _ (.int .i64 (k : Int)) rfl rfl rfl rfl rfl (fun wx hx => by unfold mkOp; go_simp; all_goals (with_reducible rfl)) ?_
      simp only [Act.put, zA, zB, zC]
      refine linf_pure 28 _ _ (.slice ak (pend k).length ck) rfl rfl rfl rfl rfl (fun wx hx => by unfold mkOp; go_simp; all_goals (with_reducible rfl)) ?_
      simp only [Act.put, zA, zB, zC]
      refine linf_pure 29 _ _ (.int .i64 ((pend k).length : Int)) rfl rfl rfl rfl rfl (fun wx hx => by unfold mkOp; go_simp; all_goals (with_reducible rfl)) ?_
      simp only [Act.put, zA, zB, zC]
      refine linf_fn 30 39 _ _ _ (behind_any y g b n c (opD S).ops rc rl (opD S).off _ (Sam.row r3 HE (fun h => h)) (HM3.out.sam HE fun _ h => h.elim) k (pend k).length HK.out (Nat.le_refl _) (HPL.out k HK.out)) rfl rfl rfl rfl Try.func39 (by kernel_rfl) (by kernel_rfl) (by go_simp) ?_
      rintro e wf30 ⟨rfl, kk⟩
      refine ⟨_, rfl, Sam.of_below kk, ?_⟩
      rw [if_neg HP0.out]
      replace HE : Sam (fun _ => False) w3 wf30 := HE.trans (Sam.of_below kk)
      clear kk
      simp only [Act.put, zA, zB, zC]
      refine linf_pure 31 _ _ (.pointer (some ⟨g, k * 64, none⟩)) rfl rfl rfl rfl rfl (fun wx hx => exec_ixI _ _ _ _ rfl rfl HK.out) ?_
      simp only [Act.put, zA, zB, zC]
      refine linf_upd _ _ rfl rfl rfl rfl rfl _ (exec_storeI _ _ _ _ (HM3.out.lg.sam HE fun h => h) rfl rfl HK.out) ?_
      rintro w5 ⟨u1, u2⟩
      have H5 := Lib.hid (flush_step HM3.out HR3.out HE u1 u2 HP0.out HRN.out)
      have HS5 : Hid (Sam (· = g) w3 w5) := Lib.hid ((HE.mono fun _ _ h => h.elim).trans u2)
      have r5 := Sam.row (Sam.row r3 HE fun h => h) u2 (HM3.out.yg)
      clear u1 u2 HE hen
      go_wp2
      go_roundw
      case rel => exact ⟨_, cnt', H5.out.1, H5.out.2, r5, HSR.out.trans ((HS3.out.mono fun x _ e => .inr e).trans (HS5.out.mono fun x _ e => .inl e))⟩
      case measure => rw [H5.out.1.left_eq, HRG.out.left_eq]; exact HL3.out
end Go.Proofs.Ytpilfjdhpahphaa

/- The program's device: Clone, Copy. -/
namespace Go.Proofs.Ytpilfjdhpahphaa
open Go.RowKit Go.Deep
open Go.Maps (Keyed has IsMap)
set_option linter.unusedSimpArgs false
set_option linter.unusedVariables false

theorem wappI {ops : Array Oper} {rest : List Oper} {o : Oper} {a : Act} {w : World} {Q : Exit → Act → World → Prop} (hgd : o.guard = none) (s x : Operand) (hop : o.op = .call { callee := .builtin .append, args := #[s, x], argTypes := #[60, 60] })
    {v vb : Value} {n m gb : Nat} {LL M : Nat → List UInt8} (hown : (∃ g, Ims w v g n LL) ∨ (n = 0 ∧ (v = .slice none 0 0 ∨ ∃ g, w.ownsRow g 64 64 v 0 []))) (hb : Ims w vb gb m M) (h0 : 0 < m) (hs : a.eval s = v) (hx : a.eval x = vb) (hlen : n + m ≤ 1000000)
    (h : ∀ v' w1 g', Ims w1 v' g' (n + m) (fun i => if i < n then LL i else M (i - n)) → Sam (fun b => v.ownBlock = some b) w w1 → (v.ownBlock = some g' ∨ w.heap.size ≤ g') → wpList Try.prog ops Q rest (a.put o.dst v') w1) : wpList Try.prog ops Q (o :: rest) a w := by
  obtain ⟨v', w1, g', hr, p1, p2, p3⟩ := exec_appI a.eval s x o.type v vb n m gb LL M hown hb h0 hs hx hlen
  exact wval hgd _ hop v' hr (h v' w1 g' p1 p2 p3)
theorem wrowI0 {ops : Array Oper} {rest : List Oper} {o : Oper} {a : Act} {w : World} {Q : Exit → Act → World → Prop} (hgd : o.guard = none) (hop : o.op = .buildSlice 60 0 #[])
    (h : ∀ b w', w.heap.size ≤ b → w'.ownsRow b 64 64 (.slice (some ⟨b, 0, none⟩) 0 0) 0 [] → Below w.heap.size w w' → wpList Try.prog ops Q rest (a.put o.dst (.slice (some ⟨b, 0, none⟩) 0 0)) w') : wpList Try.prog ops Q (o :: rest) a w := by
  have hr : (execOp a.eval (mkOp (.buildSlice 60 0 #[]) o.type)).run Try.prog w = .ok (.value (.slice (some ⟨w.heap.size, 0, none⟩) 0 0)) (w.alloc (.cells #[] 64)) := by unfold mkOp; go_simp
  exact wval hgd _ hop _ hr (h _ _ (Nat.le_refl _) (World.ownsRow_lit w #[] 0 (Nat.le_refl _) (by unfold maxLen; omega) rfl) ((Below.refl _ _).alloc (Nat.le_refl _) _))
theorem wlenM {ops : Array Oper} {rest : List Oper} {o : Oper} {a : Act} {w : World} {Q : Exit → Act → World → Prop} (hgd : o.guard = none) (m : Operand) (hop : o.op = .call { callee := .builtin .len, args := #[m], argTypes := #[65] }) {b N n : Nat} {pv : Nat → Value} (hm : a.eval m = .map (some b)) (h : MpAt w b N n pv)
    (hK : ∀ i : Int, wpList Try.prog ops Q rest (a.put o.dst (.int .i64 i)) w) : wpList Try.prog ops Q (o :: rest) a w := by
  obtain ⟨D, h, _⟩ := h
  exact wpList_len_own w hgd m _ hop _ _ Try.underlying65 RV b N D hm h (hK _)
theorem isBDev : IsArr Try.prog 67 6 := ⟨by kernel_rfl, by kernel_rfl⟩
theorem zeroBDev : (Try.prog.info? 67).map (fun i => i.zero) = some (some (.agg (arrOf 6 (devF (.slice none 0 0) (.map none) 0 false 0 false)))) := by kernel_rfl
set_option maxHeartbeats 4000000 in
set_option maxRecDepth 20000 in
theorem clone_any (g n c : Nat) (w : World) (L : Nat → List UInt8) (h : Ims w (.slice (some ⟨g, 0, none⟩) n c) g n L) (h1 : 1 ≤ n) (h2 : n ≤ 200000) : Calls Try.prog 31 #[.slice (some ⟨g, 0, none⟩) n c] w fun e w' => ∃ g2 c2, e = .returned (.slice (some ⟨g2, 0, none⟩) n c2) ∧ w.heap.size ≤ g2 ∧ Ims w' (.slice (some ⟨g2, 0, none⟩) n c2) g2 n L ∧ Below w.heap.size w w' := by
  have Bw0 := Below.refl w.heap.size w
  have HI := Lib.hid h
  have H1 := Lib.hid h1
  have H2 := Lib.hid h2
  have hnn := run_eql_slice_nil (P := Try.prog) w 60 64 (some ⟨g, 0, none⟩) n c Try.underlying60
  clear h h1 h2
  go_enter Try.func31, Try.ntmps31
  go_wp2_with (first
    | (have hgo := Bw0; clear hgo
       refine wrowI0 rfl rfl ?_
       intro b w1 lb o_b kk
       have HI1 := Lib.hid (HI.out.bel kk)
       have HOB := Lib.hid o_b
       have L_b := Lib.hid lb
       have Bw1 := kk
       clear Bw0 kk lb o_b)
    | (have hgo := Bw1; clear hgo
       refine wappI (LL := L) rfl (.tmp 5) (.tmp 6) rfl (.inr ⟨rfl, .inr ⟨_, HOB.out⟩⟩) HI1.out (by have := H1.out; omega) rfl rfl (by have := H2.out; omega) ?_
       intro v2 w2 g2 p1 p2 p3
       rw [Nat.zero_add] at p1
       obtain ⟨c2, rfl, _, _⟩ := p1.shape
       have HP := Lib.hid p1
       have HL : Hid (w.heap.size ≤ g2) := Lib.hid (p3.elim (fun h => by have e : b = g2 := Option.some.inj h; have := L_b.out; omega) fun h => Nat.le_trans Bw1.size h)
       have Bw2 : Below w.heap.size w w2 := Bw1.trans (p2.below (fun x hx => by have e : b = x := Option.some.inj hx; have := L_b.out; omega) Bw1.size)
       clear Bw1 p1 p2 p3))
  go_ret
  exact ⟨g2, c2, rfl, HL.out, HP.out.congr fun i _ => by rw [if_neg (Nat.not_lt_zero i), Nat.sub_zero], Bw2⟩
/-- What is there of what is pending, where a copy is under way. -/
def pdL (pend : Nat → List (List UInt8)) (left : Nat → Bool) : Nat → List (List UInt8) := fun k => if left k = true then [] else pend k
theorem pdL_step {pend : Nat → List (List UInt8)} {left : Nat → Bool} {k : Nat} : updF (pdL pend left) k (pend k) = pdL pend fun j => left j && !(j == k) := by
  funext j
  unfold updF pdL
  by_cases e : j = k
  · subst e
    simp
  · have e2 : (j == k) = false := by simp [e]
    simp [e, e2]
theorem BkM.congrp {y g b n N : Nat} {vg : Value} {pv : Nat → Value} {pb : Nat → Nat} {w : World} {good : Nat → List UInt8} {pend qend : Nat → List (List UInt8)} (h : BkM y g b vg pv pb w N n good pend) (e : ∀ k, k < n → pend k = qend k) : BkM y g b vg pv pb w N n good qend :=
  ⟨h.n1, h.nn, h.lg, h.mp, fun k hk => by rw [← e k hk]; exact h.pd k hk, h.yg, h.yb, h.gb, fun k hk hp => h.py k hk (by rw [e k hk]; exact hp), fun j k hj hk hpj hpk => h.pp j k hj hk (by rw [e j hj]; exact hpj) (by rw [e k hk]; exact hpk)⟩
/-- A list of one's own laid at a number that had none. -/
theorem BkM.setp {y g b n N g' : Nat} {vg v' : Value} {pv : Nat → Value} {pb : Nat → Nat} {w0 w1 w2 : World} {good : Nat → List UInt8} {pend : Nat → List (List UInt8)} (h : BkM y g b vg pv pb w0 N n good pend) (hy : y < w0.heap.size) (k : Nat) (hk : k < n) (l : List (List UInt8)) (hl : l ≠ [])
    (q1 : Ims w1 v' g' l.length fun i => l.getD i []) (q2 : Below w0.heap.size w0 w1) (q3 : w0.heap.size ≤ g') (q4 : MpAt w2 b (N + 1) n (updF pv k v')) (q5 : Sam (· = b) w1 w2) : BkM y g b vg (updF pv k v') (updF pb k g') w2 (N + 1) n good (updF pend k l) := by
  have lt := h.lt hy
  have gn : ∀ x, ownB y g b n pb pend x → x ≠ g' := fun x hx e => by have := lt x hx; omega
  refine ⟨h.n1, h.nn, (h.lg.bel q2).sam q5 (fun e => h.gb e), q4, fun j hj => ?_, h.yg, h.yb, h.gb, fun j hj hp => ?_, fun i j hi hj hpi hpj hij => ?_⟩
  · by_cases e : j = k
    · subst e
      simp only [updF, if_true]
      exact .inr ⟨hl, q1.sam q5 fun e => gn b (.inr (.inr (.inl rfl))) e.symm⟩
    · simp only [updF, if_neg e]
      exact (h.pd j hj).imp id fun ⟨e1, e2⟩ => ⟨e1, (e2.bel q2).sam q5 (h.py j hj e1).2.2⟩
  · by_cases e : j = k
    · subst e
      simp only [updF, if_true]
      exact ⟨fun e => gn y (.inl rfl) e.symm, fun e => gn g (.inr (.inl rfl)) e.symm, fun e => gn b (.inr (.inr (.inl rfl))) e.symm⟩
    · simp only [updF, if_neg e] at hp ⊢
      exact h.py j hj hp
  · by_cases e1 : i = k
    · subst e1
      have e2 : ¬ j = i := fun e => hij e.symm
      simp only [updF, if_true, if_neg e2] at hpj ⊢
      exact fun e => gn _ (.inr (.inr (.inr ⟨j, hj, hpj, rfl⟩))) e.symm
    · by_cases e2 : j = k
      · subst e2
        simp only [updF, if_true, if_neg e1] at hpi ⊢
        exact gn _ (.inr (.inr (.inr ⟨i, hi, hpi, rfl⟩)))
      · simp only [updF, if_neg e1, if_neg e2] at hpi hpj ⊢
        exact h.pp i j hi hj hpi hpj hij
theorem copy_start {y g b n c N r y2 g2 b2 c2 cnt : Nat} {ops rl : Int} {rc off : Bool} {pv : Nat → Value} {pb : Nat → Nat} {w w8 : World} {good : Nat → List UInt8} {pend : Nat → List (List UInt8)} {left : Nat → Bool} (hrg : Rg w8 b r N n pv left cnt) (hle : ∀ k, k < n → (left k = true ↔ pv k ≠ nilV)) (hcn : cnt ≤ N) (hm : BkM y g b (.slice (some ⟨g, 0, none⟩) n c) pv pb w8 N n good pend)
    (hg : Ims w8 (.slice (some ⟨g2, 0, none⟩) n c2) g2 n good) (hmb : MpAt w8 b2 0 n fun _ => nilV) (ng : y2 ≠ g2) (nb : y2 ≠ b2 ∧ g2 ≠ b2) (ly : w.heap.size ≤ y2) (lg : w.heap.size ≤ g2) (lb : w.heap.size ≤ b2) (hr : w.heap.size ≤ r ∧ y2 ≠ r ∧ g2 ≠ r ∧ b2 ≠ r) (r_o : w8.rowIs y2 67 6 (devF (.slice (some ⟨g2, 0, none⟩) n c2) (.map (some b2)) ops rc rl off)) (bw : Below w.heap.size w w8) :
    ∃ left cnt pv2 pb2 N2, Rg w8 b r N n pv left cnt ∧ BkM y2 g2 b2 (.slice (some ⟨g2, 0, none⟩) n c2) pv2 pb2 w8 N2 n good (pdL pend left) ∧ N2 + cnt ≤ N ∧ (∀ x, ownB y2 g2 b2 n pb2 (pdL pend left) x → w.heap.size ≤ x ∧ x ≠ r) ∧ BkM y g b (.slice (some ⟨g, 0, none⟩) n c) pv pb w8 N n good pend ∧ w8.rowIs y2 67 6 (devF (.slice (some ⟨g2, 0, none⟩) n c2) (.map (some b2)) ops rc rl off) ∧ Below w.heap.size w w8 := by
  have hp : ∀ k, k < n → pdL pend left k = [] := fun k hk => by
    unfold pdL
    by_cases e : left k = true
    · rw [if_pos e]
    · rw [if_neg e]
      exact Classical.byContradiction fun hn => e ((hle k hk).2 ((hm.pvn k hk).1 hn))
  refine ⟨left, cnt, fun _ => nilV, fun _ => 0, 0, hrg, ⟨hm.n1, hm.nn, hg, hmb, fun k hk => .inl ⟨hp k hk, rfl⟩, ng, nb.1, nb.2, fun k hk h => absurd (hp k hk) h, fun j k hj hk h => absurd (hp j hj) h⟩, by omega, ?_, hm, r_o, bw⟩
  rintro x (rfl | rfl | rfl | ⟨k, hk, h, _⟩)
  · exact ⟨ly, hr.2.1⟩
  · exact ⟨lg, hr.2.2.1⟩
  · exact ⟨lb, hr.2.2.2⟩
  · exact absurd (hp k hk) h
theorem copy_step {y g b n c N r y2 g2 b2 c2 cnt cnt' k g4 N2 : Nat} {v4 : Value} {pv pv2 : Nat → Value} {pb pb2 : Nat → Nat} {w w3 wf w5 : World} {good : Nat → List UInt8} {pend : Nat → List (List UInt8)} {left : Nat → Bool} (hmo : BkM y2 g2 b2 (.slice (some ⟨g2, 0, none⟩) n c2) pv2 pb2 w3 N2 n good (pdL pend left)) (hr : Rg w3 b r N n pv (fun j => left j && !(j == k)) cnt')
    (hms : BkM y g b (.slice (some ⟨g, 0, none⟩) n c) pv pb w3 N n good pend) (he : Sam (fun _ => False) w3 wf) (hg4 : Ims wf v4 g4 (pend k).length fun i => (pend k).getD i []) (lg4 : w3.heap.size ≤ g4) (u1 : MpAt w5 b2 (N2 + 1) n (updF pv2 k v4)) (u2 : Sam (· = b2) wf w5) (hk : k < n) (hp : pend k ≠ []) (hl : left k = true) (hy : y2 < w3.heap.size)
    (hox : ∀ x, ownB y2 g2 b2 n pb2 (pdL pend left) x → w.heap.size ≤ x ∧ x ≠ r) (hbe : Below w.heap.size w w3) (hrl : r < w3.heap.size) (hrn : w.heap.size ≤ r ∧ y2 ≠ r ∧ g2 ≠ r ∧ b2 ≠ r) (how : ∀ x, ownB y g b n pb pend x → x < w.heap.size) (hn2 : N2 + cnt ≤ N) (hlt : cnt' < cnt) :
    Rg w5 b r N n pv (fun j => left j && !(j == k)) cnt' ∧ BkM y2 g2 b2 (.slice (some ⟨g2, 0, none⟩) n c2) (updF pv2 k v4) (updF pb2 k g4) w5 (N2 + 1) n good (pdL pend fun j => left j && !(j == k)) ∧ N2 + 1 + cnt' ≤ N ∧ (∀ x, ownB y2 g2 b2 n (updF pb2 k g4) (pdL pend fun j => left j && !(j == k)) x → w.heap.size ≤ x ∧ x ≠ r) ∧ BkM y g b (.slice (some ⟨g, 0, none⟩) n c) pv pb w5 N n good pend ∧ Below w.heap.size w w5 := by
  have hb2 := hox b2 (.inr (.inr (.inl rfl)))
  have bl : Below w3.heap.size w3 wf := he.none
  have hsb : ∀ x, ownB y g b n pb pend x → x ≠ b2 := fun x hx e => by have := how x hx; omega
  have hset := hmo.setp hy k hk (pend k) hp hg4 bl lg4 u1 u2
  rw [pdL_step] at hset
  refine ⟨(hr.sam he (fun h => h) fun h => h).sam u2 (hsb b (.inr (.inr (.inl rfl)))) (Ne.symm hrn.2.2.2), hset, by omega, ?_, (hms.sam he fun _ h => h.elim).sam u2 fun x hx => .inr fun ho => hsb x ho hx, (hbe.trans (bl.mono hbe.size)).trans (u2.below (fun x hx => by rw [hx]; exact hb2.1) (Nat.le_trans hbe.size bl.size))⟩
  rw [← pdL_step]
  rintro x (h | h | h | ⟨j, hj, h, rfl⟩)
  · exact hox x (.inl h)
  · exact hox x (.inr (.inl h))
  · exact hox x (.inr (.inr (.inl h)))
  · unfold updF at h ⊢
    by_cases e : j = k
    · rw [if_pos e]
      have := hbe.size
      exact ⟨by omega, by omega⟩
    · rw [if_neg e] at h ⊢
      exact hox _ (.inr (.inr (.inr ⟨j, hj, h, rfl⟩)))
theorem copyN_any (w : World) : Calls Try.prog 17 #[.pointer none] w fun e w' => e = .returned (.pointer none) ∧ w' = w := by
  go_enter Try.func17, Try.ntmps17
  go_wp2_with (first
    | (go_at_call 22
       refine (lenN_any _).mono ?_
       rintro e w1 ⟨rfl, rfl⟩))
  go_ret
  exact ⟨rfl, rfl⟩
set_option maxHeartbeats 4000000 in
set_option maxRecDepth 20000 in
theorem copy_raw (y g b n c N : Nat) (ops : Int) (rc : Bool) (rl : Int) (off : Bool) (w : World) (r_y : w.rowIs y 67 6 (devF (.slice (some ⟨g, 0, none⟩) n c) (.map (some b)) ops rc rl off)) {N : Nat} {pv : Nat → Value} {pb : Nat → Nat} {good : Nat → List UInt8} {pend : Nat → List (List UInt8)} (hm : BkM y g b (.slice (some ⟨g, 0, none⟩) n c) pv pb w N n good pend) (hpl : ∀ k, k < n → (pend k).length ≤ 200000) (hNN : N ≤ 1000000) :
    Calls Try.prog 17 #[.pointer (some ⟨y, 0, none⟩)] w fun e w' => ∃ y2 g2 b2 c2 pv2 pb2 N2, e = .returned (.pointer (some ⟨y2, 0, none⟩)) ∧ w'.rowIs y2 67 6 (devF (.slice (some ⟨g2, 0, none⟩) n c2) (.map (some b2)) ops rc rl off) ∧ BkM y2 g2 b2 (.slice (some ⟨g2, 0, none⟩) n c2) pv2 pb2 w' N2 n good pend ∧ N2 ≤ N ∧ (∀ x, ownB y2 g2 b2 n pb2 pend x → w.heap.size ≤ x) ∧ Below w.heap.size w w' := by
  have Bw0 := Below.refl w.heap.size w
  have HGS : Hid (∀ wq : World, Below w.heap.size w wq → w.heap.size ≤ wq.heap.size) := Lib.hid fun wq h => h.size
  have e1 : ((n : Int) == 0) = false := by have := hm.n1; simp; omega
  have HM := Lib.hid hm
  have HPL := Lib.hid hpl
  have HNN := Lib.hid hNN
  have HOW := Lib.hid (hm.lt r_y.lt)
  clear hm hpl hNN
  go_enter Try.func17, Try.ntmps17
  go_wp2_with (first
    | (go_at_call 22
       refine (len_any y g b n c ops rc rl off _ r_y).mono ?_
       rintro e w1 ⟨rfl, rfl⟩)
    | (have hgo := Bw0; clear hgo
       refine wpList_load_as rfl 67 (.tmp 10) rfl 6 (devF (.slice (some ⟨g, 0, none⟩) n c) (.map (some b)) ops rc rl off) isBDev r_y rfl (by omega) (fun i _ => by rw [Nat.zero_add]) ?_
       have Bw1 := Bw0
       clear Bw0)
    | (have hgo := Bw1; clear hgo
       refine wpList_alloc_row rfl 67 rfl 6 (devF (.slice none 0 0) (.map none) 0 false 0 false) zeroBDev ?_
       intro y2 w2 ly r_o kk
       have L_o := Lib.hid (zrl HGS Bw1 ly)
       replace r_y := zrb r_y kk
       have HM2 := Lib.hid (HM.out.bel kk)
       have Bw2 := zbt HGS Bw1 kk
       clear Bw1 kk ly)
    | (have hgo := Bw2; clear hgo
       refine wpList_store_as rfl 67 (.tmp 3) (.tmp 11) rfl 6 (devF (.slice (some ⟨g, 0, none⟩) n c) (.map (some b)) ops rc rl off) isBDev r_o rfl rfl (by omega) (fun j hj => six (P := fun j => (devF (.slice (some ⟨g, 0, none⟩) n c) (.map (some b)) ops rc rl off j).oneCell' = true) rfl rfl rfl rfl rfl rfl j hj) (fun i hi => putN_whole hi) ?_
       intro w3 q gk
       replace r_o := q
       have Bw3 := zbg HGS Bw2 gk L_o.out
       have YL : Hid (y < w1.heap.size) := Lib.hid (HOW.out y (.inl rfl))
       have r_y3 := gb_rowIs r_y gk (by have := YL.out; have := L_o.out; omega)
       replace r_y := r_y3
       have HM3 := Lib.hid (HM2.out.sam (Sam.of_grown gk fun x hx => hx) fun x hx => .inr fun ho => by have := HOW.out x ho; have := L_o.out; have := Option.some.inj hx; omega)
       clear Bw2 gk q r_y3)
    | (refine wpList_loadG 60 (.tmp 14) rfl rfl (.slice (some ⟨g, 0, none⟩) n c) r_y rfl (by omega) rfl (by kernel_rfl) ?_)
    | (have hgo := Bw3; clear hgo
       go_at_call 31
       refine (clone_any g n c _ good HM3.out.lg HM3.out.n1 (by have := HM3.out.nn; omega)).mono ?_
       rintro e w4 ⟨g2, c2, rfl, lg2, hg2, kk⟩
       have LG2 := Lib.hid (Nat.le_trans (HGS.out _ Bw3) lg2)
       have HG2 := Lib.hid hg2
       have HM4 := Lib.hid (HM3.out.bel kk)
       replace r_y := zrb r_y kk
       have NG2 : Hid (y2 ≠ g2) := Lib.hid (Nat.ne_of_lt (Nat.lt_of_lt_of_le r_o.lt lg2))
       replace r_o := zrb r_o kk
       have Bw4 := zbt HGS Bw3 kk
       clear Bw3 kk lg2 hg2)
    | (have hgo := Bw4; clear hgo
       refine wpList_storeG 60 (.tmp 17) (.tmp 16) rfl rfl (devF (.slice (some ⟨g2, 0, none⟩) n c2) (.map (some b)) ops rc rl off) r_o rfl rfl (by kernel_rfl) rfl rfl (by omega) (six rfl rfl rfl rfl rfl rfl) ?_
       intro w5 q_n s_n
       replace r_o := q_n
       have S_w5 := Lib.hid s_n
       have hgs := HGS
       have Bw5 := Bw4.trans (s_n.below (fun b hb => by rw [hb]; exact L_o.out) (HGS.out _ Bw4))
       clear hgs s_n q_n Bw4)
    | (have hgo := Bw5; clear hgo
       have r_y5 := Sam.row r_y S_w5.out (by have := HOW.out y (.inl rfl); have := L_o.out; omega)
       replace r_y := r_y5
       have HM5 := Lib.hid (HM4.out.sam S_w5.out fun x hx => .inr fun ho => by have := HOW.out x ho; have := L_o.out; omega)
       have HG5 := Lib.hid (HG2.out.sam S_w5.out (fun e => NG2.out e.symm))
       have Bw6 := Bw5
       clear Bw5 r_y5
       refine wpList_loadG 65 (.tmp 20) rfl rfl (.map (some b)) r_y rfl (by omega) rfl (by kernel_rfl) ?_)
    | (refine wlenM rfl (.tmp 21) rfl rfl HM5.out.mp ?_
       intro ml)
    | (have hgo := Bw6; clear hgo
       refine wmakeM rfl (some (.tmp 22)) rfl (fun z hz => by cases hz; exact ⟨ml, rfl⟩) n ?_
       intro b2 w6 lb m_b kk
       have L_b := Lib.hid (Nat.le_trans (HGS.out _ Bw6) lb)
       have NB2 : Hid (y2 ≠ b2 ∧ g2 ≠ b2) := Lib.hid ⟨Nat.ne_of_lt (Nat.lt_of_lt_of_le r_o.lt lb), Nat.ne_of_lt (Nat.lt_of_lt_of_le HG5.out.lt lb)⟩
       have HMB := Lib.hid m_b
       have HM6 := Lib.hid (HM5.out.bel kk)
       have HG6 := Lib.hid (HG5.out.bel kk)
       replace r_y := zrb r_y kk
       replace r_o := zrb r_o kk
       have Bw7 := zbt HGS Bw6 kk
       clear Bw6 kk lb m_b)
    | (have hgo := Bw7; clear hgo
       refine wpList_storeG 65 (.tmp 24) (.tmp 23) rfl rfl (devF (.slice (some ⟨g2, 0, none⟩) n c2) (.map (some b2)) ops rc rl off) r_o rfl rfl (by kernel_rfl) rfl rfl (by omega) (six rfl rfl rfl rfl rfl rfl) ?_
       intro w7 q_n s_n
       replace r_o := q_n
       have S_w7 := Lib.hid s_n
       have hgs := HGS
       have Bw8 := Bw7.trans (s_n.below (fun b hb => by rw [hb]; exact L_o.out) (HGS.out _ Bw7))
       clear hgs s_n q_n Bw7)
    | (have hgo := Bw8; clear hgo
       have r_y5 := Sam.row r_y S_w7.out (by have := HOW.out y (.inl rfl); have := L_o.out; omega)
       replace r_y := r_y5
       have HM7 := Lib.hid (HM6.out.sam S_w7.out fun x hx => .inr fun ho => by have := HOW.out x ho; have := L_o.out; omega)
       have HG7 := Lib.hid (HG6.out.sam S_w7.out (fun e => NG2.out e.symm))
       have HMB7 := Lib.hid (HMB.out.sam S_w7.out (fun e => NB2.out.1 e.symm))
       have Bw9 := Bw8
       clear Bw8 r_y5
       refine wpList_loadG 65 (.tmp 27) rfl rfl (.map (some b)) r_y rfl (by omega) rfl (by kernel_rfl) ?_)
    | (have hgo := Bw9; clear hgo
       refine wrangeM rfl (.tmp 28) rfl HM7.out.mp rfl ?_
       intro w8 left0 cnt0 hrg hle hcn kk
       have HRG := Lib.hid hrg
       have HLE := Lib.hid hle
       have HCN := Lib.hid hcn
       have HM8 := Lib.hid (HM7.out.bel kk)
       have HG8 := Lib.hid (HG7.out.bel kk)
       have HMB8 := Lib.hid (HMB7.out.bel kk)
       obtain ⟨r, hr⟩ : ∃ r, r = w7.heap.size := ⟨_, rfl⟩
       rw [← hr] at HRG ⊢
       have HRN : Hid (w1.heap.size ≤ r ∧ y2 ≠ r ∧ g2 ≠ r ∧ b2 ≠ r) := Lib.hid ⟨by rw [hr]; exact HGS.out _ Bw9, by rw [hr]; exact Nat.ne_of_lt r_o.lt, by rw [hr]; exact Nat.ne_of_lt HG7.out.lt, by rw [hr]; exact Nat.ne_of_lt HMB7.out.lt⟩
       replace r_y := zrb r_y kk
       replace r_o := zrb r_o kk
       have Bw10 := zbt HGS Bw9 kk
       clear Bw9 kk hrg hle hcn hr))
  go_frame
  go_loopw [4] (fun _ wr => ∃ left cnt pv2 pb2 N2, Rg wr b r N n pv left cnt ∧ BkM y2 g2 b2 (.slice (some ⟨g2, 0, none⟩) n c2) pv2 pb2 wr N2 n good (pdL pend left) ∧ N2 + cnt ≤ N ∧ (∀ x, ownB y2 g2 b2 n pb2 (pdL pend left) x → w1.heap.size ≤ x ∧ x ≠ r) ∧ BkM y g b (.slice (some ⟨g, 0, none⟩) n c) pv pb wr N n good pend ∧ wr.rowIs y2 67 6 (devF (.slice (some ⟨g2, 0, none⟩) n c2) (.map (some b2)) ops rc rl off) ∧ Below w1.heap.size w1 wr)
    (fun _ wr => wr.rangeLeft b r)
  case atStart =>
    exact copy_start HRG.out HLE.out HCN.out HM8.out HG8.out HMB8.out NG2.out NB2.out L_o.out LG2.out L_b.out HRN.out r_o Bw10
  case round =>
    clear HRG HLE HCN HM8 HG8 HMB8 r_o r_y Bw10 HM2 HM3 HM4 HM5 HM6 HM7 HG2 HG5 HG6 HG7 HMB HMB7 S_w5 S_w7
    obtain ⟨left, cnt, pv2, pb2, N2, hrg, hmo, hn2, hox, hms, r_o, hbe⟩ := hrel
    have HRG := Lib.hid hrg
    have HMO := Lib.hid hmo
    have HN2 := Lib.hid hn2
    have HOX := Lib.hid hox
    have HMS := Lib.hid hms
    have HBE := Lib.hid hbe
    clear hrg hmo hn2 hox hms hbe
    go_wp2_with (first
      | (refine wnextM rfl (.tmp 29) rfl HRG.out rfl ?_ ?_))
    · intro hdone
      go_wp2
      go_ret
      have hpd : ∀ k, k < n → pdL pend left k = pend k := fun k hk => by unfold pdL; rw [hdone k hk]; simp
      refine ⟨y2, g2, b2, c2, pv2, pb2, N2, rfl, r_o, HMO.out.congrp hpd, by have := HN2.out; omega, fun x hx => (HOX.out x ?_).1, HBE.out⟩
      rcases hx with h | h | h | ⟨k, hk, hp, h⟩
      · exact .inl h
      · exact .inr (.inl h)
      · exact .inr (.inr (.inl h))
      · exact .inr (.inr (.inr ⟨k, hk, by rw [hpd k hk]; exact hp, h⟩))
    · intro k w3 cnt' hk hl hp hrg3 hlt hs3 hen
      have HK := Lib.hid hk
      have hpk := (HMS.out.pvn k hk).2 hp
      obtain ⟨ck, hck, hcl, hcm⟩ : ∃ ck, pv k = .slice (some ⟨pb k, 0, none⟩) (pend k).length ck ∧ (pend k).length ≤ ck ∧ ck ≤ maxLen := by
        rcases HMS.out.pd k hk with ⟨e1, _⟩ | ⟨_, e2⟩
        · exact absurd e1 hpk
        · exact e2.shape
      rw [hck] at hen
      have hrs : ∀ x, ownB y g b n pb pend x → x ≠ r := fun x hx e => by have := HOW.out x hx; have := HRN.out.1; omega
      have HQ : Hid (Ims w3 (.slice (some ⟨pb k, 0, none⟩) (pend k).length ck) (pb k) (pend k).length fun i => (pend k).getD i []) := Lib.hid (by
        rcases HMS.out.pd k hk with ⟨e1, _⟩ | ⟨_, e2⟩
        · exact absurd e1 hpk
        · rw [← hck]; exact e2.sam hs3 (hrs _ (.inr (.inr (.inr ⟨k, hk, hpk, rfl⟩)))))
      have HP := Lib.hid hpk
      have HP1 : Hid (1 ≤ (pend k).length) := Lib.hid (List.length_pos_iff.2 hpk)
      have HL := Lib.hid hl
      have HR3 := Lib.hid hrg3
      have HL3 := Lib.hid hlt
      have HS3 := Lib.hid hs3
      have HMS3 := Lib.hid (HMS.out.sam hs3 fun x hx => .inr fun ho => hrs x ho hx)
      have HMO3 := Lib.hid (HMO.out.sam hs3 fun x hx => .inr fun ho => (HOX.out x ho).2 hx)
      have HBE3 : Hid (Below w1.heap.size w1 w3) := Lib.hid (HBE.out.trans (hs3.below (fun x hx => by rw [hx]; exact HRN.out.1) HBE.out.size))
      replace r_o := Sam.row r_o hs3 HRN.out.2.1
      clear hk hck hcl hcm hrs hpk hp hrg3 hlt hs3 hl
      go_wp2
      have HE : Sam (fun _ => False) w3 w3.drew := (Sam.refl _ _).drew
      refine wp_region_linf (Sam (fun _ => False)) (fun w => Sam.refl _ w) (fun _ _ _ h k => h.trans k) 5 12 (.rd 0 (.rd 1 (.rd 2 (.rd 3 (.wr 4 .done))))) (by kernel_rfl) (by kernel_rfl) (by decide) (by kernel_rfl) (fun d _ _ _ _ h => by cases d <;> exact h) ?_
      refine linf_pure 35 _ _ (.pointer (some ⟨y2, 1, none⟩)) rfl rfl rfl rfl rfl (fun wx hx => by unfold mkOp; go_simp; all_goals (with_reducible rfl)) ?_
      simp only [Act.put, zA, zB, zC]
      refine linf_pure 36 _ _ (.map (some b2)) rfl rfl rfl rfl rfl (fun wx hx => exec_loadG _ _ _ _ (.map (some b2)) r_o (HE.trans hx) (fun h => h) rfl (by omega) rfl (by kernel_rfl)) ?_
      simp only [Act.put, zA, zB, zC]
      refine linf_pure 37 _ _ (.int .i64 (k : Int)) rfl rfl rfl rfl rfl (fun wx hx => by unfold mkOp; go_simp; all_goals (with_reducible rfl)) ?_
      simp only [Act.put, zA, zB, zC]
      refine linf_pure 38 _ _ (.slice (some ⟨pb k, 0, none⟩) (pend k).length ck) rfl rfl rfl rfl rfl (fun wx hx => by unfold mkOp; go_simp; all_goals (with_reducible rfl)) ?_
      simp only [Act.put, zA, zB, zC]
      refine linf_fn 39 31 _ _ _ (clone_any (pb k) (pend k).length ck _ _ (HQ.out.sam HE fun h => h) HP1.out (HPL.out k HK.out)) rfl rfl rfl rfl Try.func31 (by kernel_rfl) (by kernel_rfl) (by go_simp) ?_
      rintro e wf39 ⟨g4, c4, rfl, lg4, hg4, kk⟩
      refine ⟨_, rfl, Sam.of_below kk, ?_⟩
      have LG4 := Lib.hid (Nat.le_trans HE.size lg4)
      have HG4 := Lib.hid hg4
      replace HE : Sam (fun _ => False) w3 wf39 := HE.trans (Sam.of_below kk)
      clear kk lg4 hg4
      simp only [Act.put, zA, zB, zC]
      refine linf_upd _ _ rfl rfl rfl rfl rfl _ (exec_updM _ _ _ _ _ (v := .slice (some ⟨g4, 0, none⟩) (pend k).length c4) (HMO3.out.mp.sam HE fun h => h) rfl rfl rfl HK.out (by have := HMO3.out.nn; omega) (fun e => by cases e) (by have := HN2.out; have := HNN.out; unfold maxLen; omega)) ?_
      rintro w5 ⟨u1, u2⟩
      have H5 := Lib.hid (copy_step HMO3.out HR3.out HMS3.out HE HG4.out LG4.out u1 u2 HK.out HP.out HL.out r_o.lt HOX.out HBE3.out HR3.out.lt HRN.out (fun x hx => HOW.out x hx) HN2.out HL3.out)
      have r5 := Sam.row (Sam.row r_o HE fun h => h) u2 (fun e => HMO3.out.yb e)
      clear u1 u2 HE hen
      go_wp2
      go_roundw
      case rel => exact ⟨_, cnt', _, _, N2 + 1, H5.out.1, H5.out.2.1, H5.out.2.2.1, H5.out.2.2.2.1, H5.out.2.2.2.2.1, r5, H5.out.2.2.2.2.2⟩
      case measure => rw [H5.out.1.left_eq, HRG.out.left_eq]; exact HL3.out
end Go.Proofs.Ytpilfjdhpahphaa

/- The library's contracts for a map's keys, sorted, at this program. -/
namespace Go.Proofs.Ytpilfjdhpahphaa
open Go.RowKit Go.Maps Go.Sort Go.Shelf Go.Deep
set_option linter.unusedSimpArgs false
set_option linter.unusedVariables false

def keysA_ren : Go.Shelf.Ren := ⟨fun | 7 => 33 | 10 => 44 | n => n, fun | 23 => 65 | 26 => 3 | 3 => 60 | 28 => 70 | 0 => 0 | 27 => 69 | 33 => 75 | 4 => 4 | n => n, fun | n => n⟩
theorem keysA : Go.Proofs.SlLaysZI.n7 Try.prog keysA_ren := {
  mixed := by kernel_rfl
  f7 := ⟨Try.f33.name, by decide, Try.func33.trans (congrArg some (by kernel_rfl))⟩
  f10 := ⟨Try.f44.name, by decide, Try.func44.trans (congrArg some (by kernel_rfl))⟩
  t0 := Try.underlying0
  a0 := Try.isAgg0
  z0 := Try.sizeOf0
  v0 := Try.zeroValue0
  t4 := Try.underlying4
  a4 := Try.isAgg4
  z4 := Try.sizeOf4
  v4 := Try.zeroValue4
  t23 := Try.underlying65
  a23 := Try.isAgg65
  z23 := Try.sizeOf65
  v23 := Try.zeroValue65
  t26 := Try.underlying3
  a26 := Try.isAgg3
  z26 := Try.sizeOf3
  v26 := Try.zeroValue3
  t27 := Try.underlying69
  a27 := Try.isAgg69
  z27 := Try.sizeOf69
  v27 := Try.zeroValue69
  t28 := Try.underlying70
  a28 := Try.isAgg70
  z28 := Try.sizeOf70
  v28 := Try.zeroValue70
  t33 := Try.underlying75
  a33 := Try.isAgg75
  z33 := Try.sizeOf75
  v33 := Try.zeroValue75 }
def sortedA_ren : Go.Shelf.Ren := ⟨fun | 6 => 32 | 8 => 42 | 9 => 43 | 11 => 45 | 13 => 47 | 12 => 46 | 23 => 57 | 24 => 58 | 14 => 48 | 15 => 49 | 16 => 50 | 17 => 51 | 18 => 52 | 19 => 53 | 20 => 54 | 21 => 55 | 22 => 56 | 25 => 59 | 26 => 60 | 27 => 61 | 28 => 62 | 29 => 63 | 30 => 64 | 31 => 65 | n => n, fun | 26 => 3 | 28 => 70 | 24 => 23 | 0 => 0 | 3 => 3 | 37 => 80 | 48 => 91 | 50 => 93 | 4 => 4 | 40 => 83 | 39 => 82 | 45 => 88 | 5 => 5 | 9 => 9 | 51 => 94 | 55 => 98 | 57 => 100 | 58 => 101 | 33 => 75 | n => n, fun | n => n⟩
theorem sortedA : Go.Proofs.SlLaysZI.n6 Try.prog sortedA_ren := {
  mixed := by kernel_rfl
  f6 := ⟨Try.f32.name, by decide, Try.func32.trans (congrArg some (by kernel_rfl))⟩
  f8 := ⟨Try.f42.name, by decide, Try.func42.trans (congrArg some (by kernel_rfl))⟩
  f11 := ⟨Try.f45.name, by decide, Try.func45.trans (congrArg some (by kernel_rfl))⟩
  t0 := Try.underlying0
  a0 := Try.isAgg0
  z0 := Try.sizeOf0
  v0 := Try.zeroValue0
  t24 := Try.underlying23
  a24 := Try.isAgg23
  z24 := Try.sizeOf23
  v24 := Try.zeroValue23
  t26 := Try.underlying3
  a26 := Try.isAgg3
  z26 := Try.sizeOf3
  v26 := Try.zeroValue3
  t28 := Try.underlying70
  a28 := Try.isAgg70
  z28 := Try.sizeOf70
  v28 := Try.zeroValue70
  i26 := by kernel_rfl }
def sortA_ren : Go.Shelf.Ren := ⟨fun | 5 => 43 | 8 => 47 | 7 => 46 | 19 => 57 | 20 => 58 | 10 => 48 | 11 => 49 | 12 => 50 | 13 => 51 | 14 => 52 | 15 => 53 | 16 => 54 | 17 => 55 | 18 => 56 | 30 => 59 | 31 => 60 | 32 => 61 | 33 => 62 | 34 => 63 | 35 => 64 | 40 => 65 | n => n, fun | 23 => 23 | 25 => 3 | 3 => 3 | 32 => 80 | 22 => 23 | 0 => 0 | 44 => 91 | 46 => 93 | 4 => 4 | 36 => 83 | 35 => 82 | 41 => 88 | 5 => 5 | 9 => 9 | 53 => 94 | 57 => 98 | 63 => 100 | 64 => 101 | n => n, fun | n => n⟩
theorem sortA : Go.Proofs.SlLaysM.n5 Try.prog sortA_ren := {
  mixed := by kernel_rfl
  f5 := ⟨Try.f43.name, by decide, Try.func43.trans (congrArg some (by kernel_rfl))⟩
  f7 := ⟨Try.f46.name, by decide, Try.func46.trans (congrArg some (by kernel_rfl))⟩
  f8 := Try.func47.trans (congrArg some (by kernel_rfl))
  f10 := ⟨Try.f48.name, by decide, Try.func48.trans (congrArg some (by kernel_rfl))⟩
  f11 := ⟨Try.f49.name, by decide, Try.func49.trans (congrArg some (by kernel_rfl))⟩
  f12 := ⟨Try.f50.name, by decide, Try.func50.trans (congrArg some (by kernel_rfl))⟩
  f13 := ⟨Try.f51.name, by decide, Try.func51.trans (congrArg some (by kernel_rfl))⟩
  f14 := ⟨Try.f52.name, by decide, Try.func52.trans (congrArg some (by kernel_rfl))⟩
  f15 := ⟨Try.f53.name, by decide, Try.func53.trans (congrArg some (by kernel_rfl))⟩
  f16 := ⟨Try.f54.name, by decide, Try.func54.trans (congrArg some (by kernel_rfl))⟩
  f17 := ⟨Try.f55.name, by decide, Try.func55.trans (congrArg some (by kernel_rfl))⟩
  f18 := ⟨Try.f56.name, by decide, Try.func56.trans (congrArg some (by kernel_rfl))⟩
  f19 := Try.func57.trans (congrArg some (by kernel_rfl))
  f20 := Try.func58.trans (congrArg some (by kernel_rfl))
  f30 := ⟨Try.f59.name, by decide, Try.func59.trans (congrArg some (by kernel_rfl))⟩
  f31 := Try.func60.trans (congrArg some (by kernel_rfl))
  f32 := Try.func61.trans (congrArg some (by kernel_rfl))
  f33 := ⟨Try.f62.name, by decide, Try.func62.trans (congrArg some (by kernel_rfl))⟩
  f34 := ⟨Try.f63.name, by decide, Try.func63.trans (congrArg some (by kernel_rfl))⟩
  f35 := ⟨Try.f64.name, by decide, Try.func64.trans (congrArg some (by kernel_rfl))⟩
  f40 := ⟨Try.f65.name, by decide, Try.func65.trans (congrArg some (by kernel_rfl))⟩
  t0 := Try.underlying0
  a0 := Try.isAgg0
  z0 := Try.sizeOf0
  v0 := Try.zeroValue0
  t3 := Try.underlying3
  a3 := Try.isAgg3
  z3 := Try.sizeOf3
  v3 := Try.zeroValue3
  t4 := Try.underlying4
  a4 := Try.isAgg4
  z4 := Try.sizeOf4
  v4 := Try.zeroValue4
  t5 := Try.underlying5
  a5 := Try.isAgg5
  z5 := Try.sizeOf5
  v5 := Try.zeroValue5
  t9 := Try.underlying9
  a9 := Try.isAgg9
  z9 := Try.sizeOf9
  v9 := Try.zeroValue9
  t22 := Try.underlying23
  a22 := Try.isAgg23
  z22 := Try.sizeOf23
  v22 := Try.zeroValue23
  t23 := Try.underlying23
  a23 := Try.isAgg23
  z23 := Try.sizeOf23
  v23 := Try.zeroValue23
  t25 := Try.underlying3
  a25 := Try.isAgg3
  z25 := Try.sizeOf3
  v25 := Try.zeroValue3
  t32 := Try.underlying80
  a32 := Try.isAgg80
  z32 := Try.sizeOf80
  v32 := Try.zeroValue80
  t35 := Try.underlying82
  a35 := Try.isAgg82
  z35 := Try.sizeOf82
  v35 := Try.zeroValue82
  t36 := Try.underlying83
  a36 := Try.isAgg83
  z36 := Try.sizeOf83
  v36 := Try.zeroValue83
  t41 := Try.underlying88
  a41 := Try.isAgg88
  z41 := Try.sizeOf88
  v41 := Try.zeroValue88
  t44 := Try.underlying91
  a44 := Try.isAgg91
  z44 := Try.sizeOf91
  v44 := Try.zeroValue91
  t46 := Try.underlying93
  a46 := Try.isAgg93
  z46 := Try.sizeOf93
  v46 := Try.zeroValue93
  t53 := Try.underlying94
  a53 := Try.isAgg94
  z53 := Try.sizeOf94
  v53 := Try.zeroValue94
  t57 := Try.underlying98
  a57 := Try.isAgg98
  z57 := Try.sizeOf98
  v57 := Try.zeroValue98
  t63 := Try.underlying100
  a63 := Try.isAgg100
  z63 := Try.sizeOf100
  v63 := Try.zeroValue100
  t64 := Try.underlying101
  a64 := Try.isAgg101
  z64 := Try.sizeOf101
  v64 := Try.zeroValue101 }
theorem sorts_any (m : Nat) : AnyZI.SortsIn Try.prog sortedA_ren Fence.wide m :=
  ⟨fun blk off cap ss W hH hblk hsz => callsIn_wide.2 (AnyM.slices_Sort_int sortA blk off cap ss W hH hblk hsz),
   fun p cap W => callsIn_wide.2 (AnyM.slices_Sort_int_none sortA p cap W)⟩
theorem keys_any (mb : Option Nat) (w : World) : Calls Try.prog 33 #[.map mb] w fun e w' => e = .returned (.func (.func 44) #[] #[.pointer (some ⟨w.heap.size, 0, none⟩)]) ∧ w' = w.alloc (.cells #[.map mb] 65) := by
  refine (callsIn_wide (n := 6)).1 ?_
  exact AnyZI.keys_in keysA Fence.wide 6 trivial rfl mb w
/-- The numbers at which the map holds something, in their order. -/
def keysL (n : Nat) (P : Nat → Bool) : List Nat := (List.range n).filter P
theorem keysL_sorted (n : Nat) (P : Nat → Bool) : ((keysL n P).map fun k : Nat => (k : Int)).Pairwise fun a b => leI a b = true := by
  rw [List.pairwise_map]
  have h : (List.range n).Pairwise (· < ·) := List.pairwise_lt_range
  refine (h.filter _).imp fun {a b} hab => ?_
  simp only [leI, decide_eq_true_eq]
  omega
theorem keysL_perm {w : World} {b N n : Nat} {pv : Nat → Value} {D : DataW Value} {P : Nat → Bool} (hP : ∀ k, k < n → (P k = true ↔ pv k ≠ nilV)) (h : w.ownsMap Try.prog 3 RV b N D) (hD : MpD D n pv) : ((keysL n P).map fun k : Nat => (k : Int)).Perm (intKeys D) := by
  obtain ⟨es, rfl, h1, h2⟩ := h.entries keyedI
  have hall : ∀ p ∈ es, ∃ x, p.1 = .int .i64 x := fun p hp => by
    have hh : has (.map es) p.1 = true := by
      rw [has_eq, List.any_eq_true]
      exact ⟨p, hp, WideAt.sameKey_self (h2 p hp)⟩
    obtain ⟨k, _, e, _⟩ := hD.2.2.1 _ hh
    exact ⟨_, e⟩
  refine perm_intKeys h1 hall ?_ fun x => ?_
  · refine List.pairwise_map.2 (((List.nodup_range (n := n)).filter _).imp fun {a b} hab e => hab (Int.ofNat.inj e))
  · rw [List.mem_map]
    constructor
    · rintro ⟨k, hk, rfl⟩
      unfold keysL at hk
      rw [List.mem_filter, List.mem_range] at hk
      exact hD.2.2.2 k hk.1 ((hP k hk.1).1 hk.2)
    · intro hx
      obtain ⟨k, q1, q2, q3⟩ := hD.2.2.1 _ hx
      refine ⟨k, ?_, ((Lit.int.inj q2).2).symm⟩
      unfold keysL
      rw [List.mem_filter, List.mem_range]
      exact ⟨q1, (hP k q1).2 q3⟩
theorem mergeSort_keysL {w : World} {b N n : Nat} {pv : Nat → Value} {D : DataW Value} {P : Nat → Bool} {ss : List Int} (hP : ∀ k, k < n → (P k = true ↔ pv k ≠ nilV)) (h : w.ownsMap Try.prog 3 RV b N D) (hD : MpD D n pv) (hs : ss.Perm (intKeys D)) : ss.mergeSort (fun x y => decide (x ≤ y)) = (keysL n P).map fun k : Nat => (k : Int) := by
  have tr : ∀ a b c : Int, leI a b = true → leI b c = true → leI a c = true := fun a b c h1 h2 => by simp only [leI, decide_eq_true_eq] at *; exact Int.le_trans h1 h2
  have to : ∀ a b : Int, (leI a b || leI b a) = true := fun a b => by simp only [leI, Bool.or_eq_true, decide_eq_true_eq]; exact Int.le_total a b
  refine List.Perm.eq_of_pairwise (le := fun a b => leI a b = true) (fun a b _ _ h1 h2 => ?_) (List.pairwise_mergeSort tr to ss) (keysL_sorted n P) (((List.mergeSort_perm ss leI).trans hs).trans (keysL_perm hP h hD).symm)
  simp only [leI, decide_eq_true_eq] at h1 h2
  exact Int.le_antisymm h1 h2
set_option maxHeartbeats 1000000 in
theorem sortedKeys_any (w : World) (Bm b N n : Nat) (pv : Nat → Value) (P : Nat → Bool) (hP : ∀ k, k < n → (P k = true ↔ pv k ≠ nilV)) (hm : w.cell? ⟨Bm, 0, none⟩ = some (.map (some b))) (hB : Bm < w.heap.size) (h : MpAt w b N n pv) (hN : N ≤ 1000000) (hn : n ≤ 65536) : Calls Try.prog 32 #[.func (.func 44) #[] #[.pointer (some ⟨Bm, 0, none⟩)]] w fun e w' =>
    ∃ a cap, e = .returned (.slice a (keysL n P).length cap) ∧ Vs w' (.slice a (keysL n P).length cap) (keysL n P).length (fun i => .int .i64 (((keysL n P).getD i 0 : Nat) : Int)) ∧ (∀ x, a = some x → w.heap.size ≤ x.block) ∧ Below w.heap.size w w' := by
  refine (callsIn_wide (n := 6)).1 ?_
  obtain ⟨D, hown, hD⟩ := h
  have hsz := hown.size_le
  have hseq : SeqGives Fence.wide 3 Try.prog 44 #[.pointer (some ⟨Bm, 0, none⟩)] encZ (fun ss => ss.Perm (intKeys D)) (Maps.size D) w :=
    AnyZI.keys_gives (ρ := keysA_ren) { keysA with } Fence.wide _ trivial rfl (by omega) Bm b N D _ hB hm hown
  have cS := AnyZI.sorted_in sortedA Fence.wide 6 trivial trivial trivial trivial rfl (by omega) (sorts_any _) (enters_of Try.func43 (by kernel_rfl) rfl) 44 #[.pointer (some ⟨Bm, 0, none⟩)] trivial (enters_of Try.func44 (by kernel_rfl) rfl) _ _ (by unfold maxLen; omega) (by omega) _ hseq
  change CallsIn _ _ Try.prog 32 _ _ _ at cS
  refine cS.mono ?_
  rintro e w' ⟨v, ss, rfl, hS, hrow, hnil, hb⟩
  have hms := mergeSort_keysL hP hown hD hS
  rw [hms] at hrow
  have hlen : ss.length = (keysL n P).length := by
    have := congrArg List.length hms
    rw [List.length_mergeSort, List.length_map] at this
    exact this
  have hov : OwnV w' w.heap.size 3 v (((keysL n P).map fun k : Nat => (k : Int)).map encZ) := by
    unfold OwnV
    rw [List.length_map, List.length_map, ← hlen]
    exact hrow
  have hvs := hov.vs
  have hbl := hov.block
  rw [List.length_map, List.length_map] at hvs
  obtain ⟨a, cap, rfl, k1, k2, k3, k4⟩ := hvs
  refine ⟨a, cap, rfl, ⟨a, cap, rfl, k1, k2, k3, fun x hx i hi => ⟨(k4 x hx i hi).1, ?_⟩⟩, fun x hx => (hbl x.block (by rw [hx]; rfl)).1, hb⟩
  rw [(k4 x hx i hi).2]
  simp [hi]
end Go.Proofs.Ytpilfjdhpahphaa

/- The program's device: pick, crashed. -/
namespace Go.Proofs.Ytpilfjdhpahphaa
open Go.RowKit Go.Deep
open Go.Maps (Keyed has IsMap)
set_option linter.unusedSimpArgs false
set_option linter.unusedVariables false

theorem tmod_fix (p m : Int) (h : 0 < m) : (p.tmod m < 0 → p.tmod m + m = p % m) ∧ (¬ p.tmod m < 0 → p.tmod m = p % m) := by
  have h1 := Int.emod_nonneg p (b := m) (by omega)
  have h2 := Int.emod_lt_of_pos p h
  have h3 := Int.tmod_eq_emod (a := p) (b := m)
  split at h3
  · exact ⟨fun h => by omega, fun _ => by omega⟩
  · have h4 : ((m.natAbs : Nat) : Int) = m := by omega
    exact ⟨fun _ => by omega, fun h => by omega⟩
/-- The i-th of the picks, modulo m. -/
def pickI (L : Nat) (pk : Nat → Int) (i m : Nat) : Int := if L = 0 then 0 else pk (i % L) % (m : Int)
set_option maxHeartbeats 4000000 in
set_option maxRecDepth 20000 in
theorem pick_any (w : World) (vp : Value) (L : Nat) (pk : Nat → Int) (i m : Nat) (hv : Vs w vp L fun i => .int .i64 (pk i)) (hw : ∀ i, i < L → (Lit.int .i64 (pk i)).wf = true) (h1 : 1 ≤ m) (hm : m ≤ 1000000) (hi : i ≤ 1000000) : Calls Try.prog 35 #[vp, .int .i64 (i : Int), .int .i64 (m : Int)] w fun e w' => e = .returned (.int .i64 (pickI L pk i m)) ∧ w' = w := by
  unfold pickI
  by_cases hL : L = 0
  · subst hL
    obtain ⟨a, cap, rfl, _⟩ := hv
    rw [if_pos rfl]
    clear hw h1 hm hi
    go_enter Try.func35, Try.ntmps35
    go_wp2
    go_ret
    exact ⟨rfl, rfl⟩
  · rw [if_neg hL]
    obtain ⟨bb, off, cap, rfl, _, _, _, hc⟩ := hv.open (by omega)
    have e1 : ((L : Int) == 0) = false := by simp; omega
    obtain ⟨j, hj⟩ : ∃ j, j = i % L := ⟨_, rfl⟩
    have hjl : j < L := by rw [hj]; exact Nat.mod_lt _ (by omega)
    have hj1 : (i : Int).tmod (L : Int) = (j : Int) := by rw [Int.tmod_eq_emod_of_nonneg (by omega), hj]; rfl
    have hjI : 0 ≤ (j : Int) ∧ (j : Int) < (L : Int) := by omega
    have hcj := hc j hjl
    have hpw := bd_i64 (hw j hjl)
    obtain ⟨p, hp⟩ : ∃ p, p = pk j := ⟨_, rfl⟩
    rw [← hp] at hcj hpw
    rw [← hj, ← hp]
    obtain ⟨fx1, fx2⟩ := tmod_fix p (m : Int) (by omega)
    have hem1 := Int.emod_nonneg p (b := (m : Int)) (by omega)
    have hem2 := Int.emod_lt_of_pos p (b := (m : Int)) (by omega)
    obtain ⟨t, ht⟩ : ∃ t, t = p.tmod (m : Int) := ⟨_, rfl⟩
    obtain ⟨q, hq⟩ : ∃ q, q = p % (m : Int) := ⟨_, rfl⟩
    rw [← ht, ← hq] at fx1 fx2
    rw [← hq] at hem1 hem2 ⊢
    have RM1 := Lib.hid hj1
    have RM2 := Lib.hid ht.symm
    have HCJ := Lib.hid hcj
    have HMP : Hid ((m : Int) ≠ 0) := Lib.hid (by omega)
    have HLP : Hid ((L : Int) ≠ 0) := Lib.hid (by omega)
    by_cases hlt : t < 0
    · have hadd : IntKind.i64.wrap (t + (m : Int)) = q := by rw [fx1 hlt, IntWalk.i64_in _ (by omega)]
      clear hv hc hw hj hj1 hcj hpw hp fx1 fx2 hem1 hem2 ht hq h1 hm hi hL hjl
      go_enter Try.func35, Try.ntmps35
      go_wp2_with (first
        | (have hgo := RM1; clear hgo
           refine wpList_binF .rem 3 3 (.tmp 12) (.tmp 14) rfl rfl (fun _ => rfl) (remF _ _ _ HLP.out RM1.out) rfl rfl ?_
           clear RM1)
        | (refine wval rfl (.load 3 (.tmp 16)) rfl (.int .i64 p) (exec_load_cell _ _ _ _ rfl (by kernel_rfl) HCJ.out) ?_)
        | (have hgo := RM2; clear hgo
           refine wpList_binF .rem 3 3 (.tmp 17) (.tmp 18) rfl rfl (fun _ => rfl) (remF _ _ _ HMP.out RM2.out) rfl rfl ?_
           clear RM2))
      go_ret
      exact ⟨rfl, rfl⟩
    · obtain rfl : t = q := fx2 hlt
      clear hv hc hw hj hj1 hcj hpw hp fx1 fx2 hem1 hem2 ht hq h1 hm hi hL hjl
      go_enter Try.func35, Try.ntmps35
      go_wp2_with (first
        | (have hgo := RM1; clear hgo
           refine wpList_binF .rem 3 3 (.tmp 12) (.tmp 14) rfl rfl (fun _ => rfl) (remF _ _ _ HLP.out RM1.out) rfl rfl ?_
           clear RM1)
        | (refine wval rfl (.load 3 (.tmp 16)) rfl (.int .i64 p) (exec_load_cell _ _ _ _ rfl (by kernel_rfl) HCJ.out) ?_)
        | (have hgo := RM2; clear hgo
           refine wpList_binF .rem 3 3 (.tmp 17) (.tmp 18) rfl rfl (fun _ => rfl) (remF _ _ _ HMP.out RM2.out) rfl rfl ?_
           clear RM2))
      go_ret
      exact ⟨rfl, rfl⟩
/-- Block k as the first j of its pending writes left it. -/
def atB (good : Nat → List UInt8) (pend : Nat → List (List UInt8)) (k j : Nat) : List UInt8 := if j = 0 then good k else (pend k).getD (j - 1) []
def crB (good : Nat → List UInt8) (pend : Nat → List (List UInt8)) (k p : Nat) : List UInt8 := if p % 2 = 1 then ((pend k).getD (p / 2) []).take 32 ++ (atB good pend k (p / 2)).drop 32 else atB good pend k (p / 2)
theorem put_im (A N : List UInt8) (hA : A.length = 64) (hN : N.length = 64) : ∀ i, i < 64 → putN (imF A) 0 32 (bytesAt (N.take 32)) i = imF (N.take 32 ++ A.drop 32) i := fun i hi => by
  unfold putN
  have e : (N.take 32).length = 32 := by rw [List.length_take, hN]; rfl
  by_cases h : 0 ≤ i ∧ i < 0 + 32
  · rw [if_pos h]
    unfold bytesAt imF
    rw [List.getD_eq_getElem?_getD, List.getD_eq_getElem?_getD, List.getElem?_append_left (by omega), Nat.sub_zero]
  · rw [if_neg h]
    unfold imF
    rw [List.getD_eq_getElem?_getD, List.getD_eq_getElem?_getD, List.getElem?_append_right (by omega), e, List.getElem?_drop, show 32 + (i - 32) = i by omega]
theorem exec_sliceL {w : World} (ρ : Operand → Value) (x hi : Operand) (t : TypeId) {b : Nat} (hx : ρ x = .pointer (some ⟨b, 0, none⟩)) (hh : ρ hi = .int .i64 32) : (execOp ρ (mkOp (.slice 64 x none (some hi) none) t)).run Try.prog w = .ok (.value (.slice (some ⟨b, 0, none⟩) 32 64)) w := by
  obtain ⟨i0, hi, hz0, hz1, hz2⟩ := info_parts infoBytF
  have hbd := run_bound_in (P := Try.prog) w .i64 32 64 .sliceAlen (by omega)
  have h32 : ((32 : Nat) : Int) = 32 := rfl
  rw [h32] at hbd
  simp [execOp, mkOp, hx, hh, hbd, Instr.sliceAt, run_underlying Try.underlying64 w, Instr.sureAddr, Instr.sliceBounds, sizeOf, typeInfo, hi, hz1, Result.andThen, Addr.add_lit]
set_option maxHeartbeats 4000000 in
set_option maxRecDepth 20000 in
theorem crashed_any (y g b n c : Nat) (ops : Int) (rc : Bool) (rl : Int) (off : Bool) (w : World) (r_y : w.rowIs y 67 6 (devF (.slice (some ⟨g, 0, none⟩) n c) (.map (some b)) ops rc rl off)) {N : Nat} {pv : Nat → Value} {pb : Nat → Nat} {good : Nat → List UInt8} {pend : Nat → List (List UInt8)} (hm : BkM y g b (.slice (some ⟨g, 0, none⟩) n c) pv pb w N n good pend) (k p : Nat) (hk : k < n) (hp : p ≤ 2 * (pend k).length) (hpl : (pend k).length ≤ 200000) (hgl : ∀ j, j ≤ (pend k).length → (atB good pend k j).length = 64) : Calls Try.prog 34 #[.pointer (some ⟨y, 0, none⟩), .int .i64 (k : Int), .int .i64 (p : Int)] w fun e w' => e = .returned (imV (crB good pend k p)) ∧ Below w.heap.size w w' := by
  have Bw0 := Below.refl w.heap.size w
  have HGS : Hid (∀ wq : World, Below w.heap.size w wq → w.heap.size ≤ wq.heap.size) := Lib.hid fun wq h => h.size
  have HK := Lib.hid hk
  have HM := Lib.hid hm
  have HPL : Hid ((pend k).length < 1000000000) := Lib.hid (by omega)
  have HOW := Lib.hid (hm.lt r_y.lt)
  obtain ⟨h, hh⟩ : ∃ h, h = p / 2 := ⟨_, rfl⟩
  have HH : Hid (h ≤ (pend k).length) := Lib.hid (by omega)
  have HQ : Hid (IntKind.i64.wrap ((p : Int).tdiv 2) = (h : Int)) := Lib.hid (by rw [Int.tdiv_eq_ediv_of_nonneg (by omega), IntWalk.i64_in _ (by omega)]; omega)
  obtain ⟨A, hA⟩ : ∃ A, A = atB good pend k h := ⟨_, rfl⟩
  have HAL : Hid (A.length = 64) := Lib.hid (by rw [hA]; exact hgl h HH.out)
  have HA := Lib.hid hA
  by_cases ho : p % 2 = 1
  · have HR : Hid ((p : Int).tmod 2 = 1) := Lib.hid (by rw [Int.tmod_eq_emod_of_nonneg (by omega)]; omega)
    obtain ⟨h1, hh1⟩ : ∃ h1, h1 = h + 1 := ⟨_, rfl⟩
    have hw1 : IntKind.i64.wrap ((h : Int) + 1) = (h1 : Int) := by rw [IntWalk.i64_in _ (by omega)]; omega
    have HH1 : Hid (h1 ≤ (pend k).length) := Lib.hid (by omega)
    obtain ⟨Nx, hN⟩ : ∃ Nx, Nx = atB good pend k h1 := ⟨_, rfl⟩
    have HNL : Hid (Nx.length = 64) := Lib.hid (by rw [hN]; exact hgl h1 HH1.out)
    have HN := Lib.hid hN
    have HRS : Hid (crB good pend k p = Nx.take 32 ++ A.drop 32) := Lib.hid (by
      unfold crB
      rw [if_pos ho, ← hh, ← hA, hN]
      unfold atB
      rw [if_neg (show ¬ h1 = 0 by omega), hh1, Nat.add_sub_cancel])
    clear hk hm hp hpl hgl hh hA ho hh1 hN
    rw [HRS.out]
    go_enter Try.func34, Try.ntmps34
    go_wp2_with (first
      | (have hgo := Bw0; clear hgo
         refine wpList_alloc_row rfl 64 rfl 64 (fun _ => .int .u8 0) zeroImg ?_
         intro x6 w1 lx r_x6 kk
         have L_x6 := Lib.hid (zrl HGS Bw0 lx)
         have HMx := Lib.hid (HM.out.bel kk)
         clear HM
         have HM := HMx
         clear HMx
         replace r_y := zrb r_y kk
         skip
         have Bw1 := zbt HGS Bw0 kk
         clear Bw0 kk lx)
      | (refine wpList_binF .quo 3 3 (.tmp 11) (.const (.int .i64 2)) rfl rfl (fun _ => rfl) (quoF _ _ _ (by omega) HQ.out) rfl rfl ?_)
      | (have hgo := Bw1; clear hgo
         go_at_call 39
         refine (behind_any y g b n c ops rc rl off _ r_y HM.out k h HK.out HH.out HPL.out).mono ?_
         rintro e w2 ⟨rfl, kk⟩
         rw [← show A = if h = 0 then good k else (pend k).getD (h - 1) [] from HA.out]
         have HMx := Lib.hid (HM.out.bel kk)
         clear HM
         have HM := HMx
         clear HMx
         replace r_y := zrb r_y kk
         replace r_x6 := zrb r_x6 kk
         have Bw2 := zbt HGS Bw1 kk
         clear Bw1 kk)
      | (have hgo := Bw2; clear hgo
         refine wpList_alloc_row rfl 64 rfl 64 (fun _ => .int .u8 0) zeroImg ?_
         intro x7 w3 lx r_x7 kk
         have L_x7 := Lib.hid (zrl HGS Bw2 lx)
         have N_x6_x7 := Lib.hid (zrn r_x6 lx)
         have HMx := Lib.hid (HM.out.bel kk)
         clear HM
         have HM := HMx
         clear HMx
         replace r_y := zrb r_y kk
         skip
         replace r_x6 := zrb r_x6 kk
         have Bw3 := zbt HGS Bw2 kk
         clear Bw2 kk lx)
      | (have hgo := Bw3; clear hgo
         refine wpList_store_as rfl 64 (.tmp 7) (.tmp 13) rfl 64 (imF (A)) isImg r_x7 rfl rfl (by omega) (fun _ _ => rfl) (fun i hi => putN_whole hi) ?_
         intro w4 q gk
         replace r_x7 := q
         replace r_x6 := gb_rowIs r_x6 gk (N_x6_x7.out)
         have sk : Sam (· = x7) _ w4 := Sam.of_grown gk fun b hb => (Option.some.inj hb).symm
         have HMx := Lib.hid (HM.out.sam sk fun z hz => .inr fun ho => by have := HOW.out z ho; have := L_x7.out; omega)
         clear HM
         have HM := HMx
         clear HMx sk
         replace r_y := gb_rowIs r_y gk (by have := HOW.out y (.inl rfl); have := L_x7.out; omega)
         have Bw4 := zbg HGS Bw3 gk L_x7.out
         clear Bw3 gk q)
      | (refine wpList_binF .rem 3 3 (.tmp 14) (.const (.int .i64 2)) rfl rfl (fun _ => rfl) (remF _ _ _ (by omega) HR.out) rfl rfl ?_)
      | (refine wpList_binF .quo 3 3 (.tmp 19) (.const (.int .i64 2)) rfl rfl (fun _ => rfl) (quoF _ _ _ (by omega) HQ.out) rfl rfl ?_)
      | (have hgo := Bw4; clear hgo
         go_at_call 39
         refine (behind_any y g b n c ops rc rl off _ r_y HM.out k h1 HK.out HH1.out HPL.out).mono ?_
         rintro e w5 ⟨rfl, kk⟩
         rw [← show Nx = if h1 = 0 then good k else (pend k).getD (h1 - 1) [] from HN.out]
         have HMx := Lib.hid (HM.out.bel kk)
         clear HM
         have HM := HMx
         clear HMx
         replace r_y := zrb r_y kk
         replace r_x6 := zrb r_x6 kk
         replace r_x7 := zrb r_x7 kk
         have Bw5 := zbt HGS Bw4 kk
         clear Bw4 kk)
      | (have hgo := Bw5; clear hgo
         refine wpList_alloc_row rfl 64 rfl 64 (fun _ => .int .u8 0) zeroImg ?_
         intro x8 w6 lx r_x8 kk
         have L_x8 := Lib.hid (zrl HGS Bw5 lx)
         have N_x6_x8 := Lib.hid (zrn r_x6 lx)
         have N_x7_x8 := Lib.hid (zrn r_x7 lx)
         have HMx := Lib.hid (HM.out.bel kk)
         clear HM
         have HM := HMx
         clear HMx
         replace r_y := zrb r_y kk
         skip
         replace r_x6 := zrb r_x6 kk
         replace r_x7 := zrb r_x7 kk
         have Bw6 := zbt HGS Bw5 kk
         clear Bw5 kk lx)
      | (have hgo := Bw6; clear hgo
         refine wpList_store_as rfl 64 (.tmp 8) (.tmp 22) rfl 64 (imF (Nx)) isImg r_x8 rfl rfl (by omega) (fun _ _ => rfl) (fun i hi => putN_whole hi) ?_
         intro w7 q gk
         replace r_x8 := q
         replace r_x6 := gb_rowIs r_x6 gk (N_x6_x8.out)
         replace r_x7 := gb_rowIs r_x7 gk (N_x7_x8.out)
         have sk : Sam (· = x8) _ w7 := Sam.of_grown gk fun b hb => (Option.some.inj hb).symm
         have HMx := Lib.hid (HM.out.sam sk fun z hz => .inr fun ho => by have := HOW.out z ho; have := L_x8.out; omega)
         clear HM
         have HM := HMx
         clear HMx sk
         replace r_y := gb_rowIs r_y gk (by have := HOW.out y (.inl rfl); have := L_x8.out; omega)
         have Bw7 := zbg HGS Bw6 gk L_x8.out
         clear Bw6 gk q))
    have HE : Sam (fun _ => False) w7 w7.drew := (Sam.refl _ _).drew
    refine wp_region_linf (Sam (fun _ => False)) (fun w => Sam.refl _ w) (fun _ _ _ h k => h.trans k) 2 5 (.rd 0 (.rd 1 .done)) (by kernel_rfl) (by kernel_rfl) (by decide) (by kernel_rfl) (fun d _ _ _ _ h => by cases d <;> exact h) ?_
    refine linf_pure 23 _ _ (.slice (some ⟨x7, 0, none⟩) 32 64) rfl rfl rfl rfl rfl (fun wx hx => exec_sliceL _ _ _ _ rfl rfl) ?_
    simp only [Act.put, zA, zB, zC]
    refine linf_pure 24 _ _ (.slice (some ⟨x8, 0, none⟩) 32 64) rfl rfl rfl rfl rfl (fun wx hx => exec_sliceL _ _ _ _ rfl rfl) ?_
    simp only [Act.put, zA, zB, zC]
    refine linf_copy 25 (.tmp 23) (.tmp 24) rfl rfl rfl rfl (Sam.row r_x7 HE fun h => h) (bs_img (n := 32) (Sam.row r_x8 HE fun h => h) HNL.out (by omega)) rfl rfl (by omega) 32 (by rw [List.length_take, HNL.out]; rfl) ?_
    intro vz w9 q gk
    have r_q := q.congr (put_im A Nx HAL.out HNL.out)
    have r_6 := gb_rowIs (Sam.row r_x6 HE fun h => h) gk N_x6_x7.out
    have Bw9 := zbg HGS (Bw7.trans (HE.none.mono Bw7.size)) gk L_x7.out
    clear q gk HE r_x6 r_x7 r_x8 r_y Bw7
    go_wp2_with (first
      | (refine wpList_load_as rfl 64 (.tmp 7) rfl 64 (imF (Nx.take 32 ++ A.drop 32)) isImg r_q rfl (by omega) (fun i _ => by rw [Nat.zero_add]) ?_)
      | (have hgo := Bw9; clear hgo
         refine wpList_store_as rfl 64 (.tmp 6) (.tmp 26) rfl 64 (imF (Nx.take 32 ++ A.drop 32)) isImg r_6 rfl rfl (by omega) (fun _ _ => rfl) (fun i hi => putN_whole hi) ?_
         intro wz q gk
         have r_z := q
         have Bw10 := zbg HGS Bw9 gk L_x6.out
         clear Bw9 gk q r_6))
    exact ret_cell_as _ rfl isImg r_z rfl (by omega) (fun _ _ => rfl) rfl ⟨rfl, Bw10⟩
  · have HR : Hid ((p : Int).tmod 2 = 0) := Lib.hid (by rw [Int.tmod_eq_emod_of_nonneg (by omega)]; omega)
    have HRS : Hid (crB good pend k p = A) := Lib.hid (by
      unfold crB
      rw [if_neg ho, ← hh, ← hA])
    clear hk hm hp hpl hgl hh hA ho
    rw [HRS.out]
    go_enter Try.func34, Try.ntmps34
    go_wp2_with (first
      | (have hgo := Bw0; clear hgo
         refine wpList_alloc_row rfl 64 rfl 64 (fun _ => .int .u8 0) zeroImg ?_
         intro x6 w1 lx r_x6 kk
         have L_x6 := Lib.hid (zrl HGS Bw0 lx)
         have HMx := Lib.hid (HM.out.bel kk)
         clear HM
         have HM := HMx
         clear HMx
         replace r_y := zrb r_y kk
         skip
         have Bw1 := zbt HGS Bw0 kk
         clear Bw0 kk lx)
      | (refine wpList_binF .quo 3 3 (.tmp 11) (.const (.int .i64 2)) rfl rfl (fun _ => rfl) (quoF _ _ _ (by omega) HQ.out) rfl rfl ?_)
      | (have hgo := Bw1; clear hgo
         go_at_call 39
         refine (behind_any y g b n c ops rc rl off _ r_y HM.out k h HK.out HH.out HPL.out).mono ?_
         rintro e w2 ⟨rfl, kk⟩
         rw [← show A = if h = 0 then good k else (pend k).getD (h - 1) [] from HA.out]
         have HMx := Lib.hid (HM.out.bel kk)
         clear HM
         have HM := HMx
         clear HMx
         replace r_y := zrb r_y kk
         replace r_x6 := zrb r_x6 kk
         have Bw2 := zbt HGS Bw1 kk
         clear Bw1 kk)
      | (have hgo := Bw2; clear hgo
         refine wpList_alloc_row rfl 64 rfl 64 (fun _ => .int .u8 0) zeroImg ?_
         intro x7 w3 lx r_x7 kk
         have L_x7 := Lib.hid (zrl HGS Bw2 lx)
         have N_x6_x7 := Lib.hid (zrn r_x6 lx)
         have HMx := Lib.hid (HM.out.bel kk)
         clear HM
         have HM := HMx
         clear HMx
         replace r_y := zrb r_y kk
         skip
         replace r_x6 := zrb r_x6 kk
         have Bw3 := zbt HGS Bw2 kk
         clear Bw2 kk lx)
      | (have hgo := Bw3; clear hgo
         refine wpList_store_as rfl 64 (.tmp 7) (.tmp 13) rfl 64 (imF (A)) isImg r_x7 rfl rfl (by omega) (fun _ _ => rfl) (fun i hi => putN_whole hi) ?_
         intro w4 q gk
         replace r_x7 := q
         replace r_x6 := gb_rowIs r_x6 gk (N_x6_x7.out)
         have sk : Sam (· = x7) _ w4 := Sam.of_grown gk fun b hb => (Option.some.inj hb).symm
         have HMx := Lib.hid (HM.out.sam sk fun z hz => .inr fun ho => by have := HOW.out z ho; have := L_x7.out; omega)
         clear HM
         have HM := HMx
         clear HMx sk
         replace r_y := gb_rowIs r_y gk (by have := HOW.out y (.inl rfl); have := L_x7.out; omega)
         have Bw4 := zbg HGS Bw3 gk L_x7.out
         clear Bw3 gk q)
      | (refine wpList_binF .rem 3 3 (.tmp 14) (.const (.int .i64 2)) rfl rfl (fun _ => rfl) (remF _ _ _ (by omega) HR.out) rfl rfl ?_)
      | (refine wpList_load_as rfl 64 (.tmp 7) rfl 64 (imF (A)) isImg r_x7 rfl (by omega) (fun i _ => by rw [Nat.zero_add]) ?_)
      | (have hgo := Bw4; clear hgo
         refine wpList_store_as rfl 64 (.tmp 6) (.tmp 26) rfl 64 (imF (A)) isImg r_x6 rfl rfl (by omega) (fun _ _ => rfl) (fun i hi => putN_whole hi) ?_
         intro wz q gk
         have r_z := q
         have Bw5 := zbg HGS Bw4 gk L_x6.out
         clear Bw4 gk q r_x6))
    exact ret_cell_as _ rfl isImg r_z rfl (by omega) (fun _ _ => rfl) rfl ⟨rfl, Bw5⟩
end Go.Proofs.Ytpilfjdhpahphaa

/- The program's device: Crash. -/
namespace Go.Proofs.Ytpilfjdhpahphaa
open Go.RowKit Go.Deep
open Go.Maps (Keyed has IsMap)
set_option linter.unusedSimpArgs false
set_option linter.unusedVariables false

def pdP (pend : Nat → List (List UInt8)) : Nat → Bool := fun k => decide (¬ (pend k).length = 0)
theorem cnt_len (pend : Nat → List (List UInt8)) : ∀ n, cntS pend n = (keysL n (pdP pend)).length
  | 0 => rfl
  | n + 1 => by
    have ih := cnt_len pend n
    unfold keysL at ih ⊢
    rw [List.range_succ, List.filter_append, List.length_append, ← ih]
    show cntS pend n + (if (pend n).length = 0 then 0 else 1) = _
    by_cases h : (pend n).length = 0
    · rw [if_pos h]
      simp [pdP, h]
    · rw [if_neg h]
      simp [pdP, h]
theorem keysL_put (pend : Nat → List (List UInt8)) (k : Nat) (hp : ¬ (pend k).length = 0) : ∀ n, k < n → (keysL n (pdP pend))[cntS pend k]? = some k
  | 0, h => by omega
  | n + 1, h => by
    have hs : keysL (n + 1) (pdP pend) = keysL n (pdP pend) ++ (List.filter (pdP pend) [n]) := by
      unfold keysL
      rw [List.range_succ, List.filter_append]
    rw [hs]
    by_cases e : k = n
    · subst e
      rw [cnt_len, List.getElem?_append_right (Nat.le_refl _), Nat.sub_self]
      simp [pdP, hp]
    · have ih := keysL_put pend k hp n (by omega)
      have hl := (List.getElem?_eq_some_iff.1 ih).1
      rw [List.getElem?_append_left hl]
      exact ih
theorem keysL_at (pend : Nat → List (List UInt8)) (n i : Nat) (h : i < (keysL n (pdP pend)).length) : (keysL n (pdP pend)).getD i 0 < n ∧ ¬ (pend ((keysL n (pdP pend)).getD i 0)).length = 0 ∧ cntS pend ((keysL n (pdP pend)).getD i 0) = i := by
  have hg : (keysL n (pdP pend))[i]? = some ((keysL n (pdP pend)).getD i 0) := by
    rw [List.getD_eq_getElem?_getD, List.getElem?_eq_getElem h]
    rfl
  have hm := List.mem_of_getElem? hg
  generalize (keysL n (pdP pend)).getD i 0 = k at hg hm ⊢
  have hm2 := hm
  unfold keysL at hm2
  rw [List.mem_filter, List.mem_range] at hm2
  have hp : ¬ (pend k).length = 0 := by simpa [pdP] using hm2.2
  refine ⟨hm2.1, hp, ?_⟩
  have h2 := keysL_put pend k hp n hm2.1
  have hnd : (keysL n (pdP pend)).Nodup := (List.nodup_range (n := n)).filter _
  exact ((List.getElem?_inj h hnd).1 (hg.trans h2.symm)).symm
theorem Vs.sam {F : Nat → Prop} {w w' : World} {a : Option Addr} {m cap n : Nat} {f : Nat → Value} (h : Vs w (.slice a m cap) n f) (k : Sam F w w') (hF : ∀ x, a = some x → ¬ F x.block) : Vs w' (.slice a m cap) n f := by
  obtain ⟨a', cap', he, h1, h2, h3, h4⟩ := h
  injection he with e1 e2 e3
  subst e1 e2 e3
  refine ⟨_, _, rfl, h1, h2, h3, fun x hx i hi => ?_⟩
  obtain ⟨g1, g2⟩ := h4 x hx i hi
  refine ⟨Nat.lt_of_lt_of_le g1 k.size, ?_⟩
  rw [← g2]
  refine World.cell?_of_block ?_
  rw [add_block]
  exact k.block _ g1 (hF x hx)
theorem keys_to (mb : Option Nat) (w : World) : Calls Try.prog 33 #[.map mb] w fun e w' => ∃ Bm, e = .returned (.func (.func 44) #[] #[.pointer (some ⟨Bm, 0, none⟩)]) ∧ w'.cell? ⟨Bm, 0, none⟩ = some (.map mb) ∧ Bm < w'.heap.size ∧ Below w.heap.size w w' := by
  refine (keys_any mb w).mono ?_
  rintro e w' ⟨rfl, rfl⟩
  refine ⟨_, rfl, by simp, by simp, (Below.refl _ _).alloc (Nat.le_refl _) _⟩
/-- The blocks as a crash under way has them. -/
def crL (S : DS) (L : Nat) (pk : Nat → Int) (i : Nat) : Nat → List UInt8 := fun k => if ¬ (S.pend k).length = 0 ∧ cntS S.pend k < i then crG S L pk k else S.good k
theorem crL_zero (S : DS) (L : Nat) (pk : Nat → Int) : crL S L pk 0 = S.good := by
  funext k
  unfold crL
  rw [if_neg (by omega)]
theorem crL_step (S : DS) (L : Nat) (pk : Nat → Int) (i k : Nat) (hk : k < S.n) (hp : ¬ (S.pend k).length = 0) (hc : cntS S.pend k = i) : ∀ j, j < S.n → updF (crL S L pk i) k (crG S L pk k) j = crL S L pk (i + 1) j := fun j hj => by
  unfold updF crL
  by_cases e : j = k
  · subst e
    rw [if_pos rfl, if_pos ⟨hp, by omega⟩]
  · rw [if_neg e]
    by_cases h : ¬ (S.pend j).length = 0 ∧ cntS S.pend j < i
    · rw [if_pos h, if_pos ⟨h.1, by omega⟩]
    · rw [if_neg h, if_neg]
      rintro ⟨h1, h2⟩
      have h3 : cntS S.pend j = i := by
        have : ¬ cntS S.pend j < i := fun h4 => h ⟨h1, h4⟩
        omega
      have q1 := keysL_put S.pend j h1 S.n hj
      have q2 := keysL_put S.pend k hp S.n hk
      rw [h3] at q1
      rw [hc, q1] at q2
      exact e (Option.some.inj q2)
theorem crL_end (S : DS) (L : Nat) (pk : Nat → Int) : ∀ k, k < S.n → crL S L pk (keysL S.n (pdP S.pend)).length k = (crI S L pk S.n).good k := fun k hk => by
  show _ = if k < S.n then crG S L pk k else List.replicate 64 0
  rw [if_pos hk]
  unfold crL
  by_cases h : (S.pend k).length = 0
  · rw [if_neg (fun hh => hh.1 h)]
    have e : pickS S L pk k = 0 := by unfold pickS; rw [if_pos (.inl h)]
    unfold crG
    rw [e, if_neg (by decide)]
    rfl
  · have q := (List.getElem?_eq_some_iff.1 (keysL_put S.pend k h S.n hk)).1
    rw [if_pos ⟨h, q⟩]
theorem crB_crG (S : DS) (L : Nat) (pk : Nat → Int) (i k P m : Nat) (hp : ¬ (S.pend k).length = 0) (hc : cntS S.pend k = i) (hm : m = 2 * (S.pend k).length + 1) (hP : pickI L pk i m = (P : Int)) : crB S.good S.pend k P = crG S L pk k := by
  have e : pickS S L pk k = P := by
    unfold pickS
    unfold pickI at hP
    by_cases hL : L = 0
    · rw [if_pos hL] at hP
      rw [if_pos (.inr hL)]
      omega
    · rw [if_neg hL] at hP
      rw [if_neg (by omega), hc]
      have e2 : (2 * ((S.pend k).length : Int) + 1) = (m : Int) := by omega
      rw [e2, hP]
      omega
  unfold crB crG
  rw [e]
  rfl
theorem crashN_any (w : World) (vp : Value) : Calls Try.prog 13 #[.pointer none, vp] w fun e w' => e = .returned (.pointer none) ∧ w' = w := by
  go_enter Try.func13, Try.ntmps13
  go_wp2_with (first
    | (go_at_call 22
       refine (lenN_any _).mono ?_
       rintro e w1 ⟨rfl, rfl⟩))
  go_ret
  exact ⟨rfl, rfl⟩
set_option maxHeartbeats 4000000 in
set_option maxRecDepth 20000 in
theorem crash_raw (y g b c N B : Nat) (rc : Bool) (rl : Int) (S : DS) (w : World) (pv : Nat → Value) (pb : Nat → Nat) (L : Nat) (pk : Nat → Int) (vp : Value) (r_y : w.rowIs y 67 6 (devF (.slice (some ⟨g, 0, none⟩) S.n c) (.map (some b)) S.ops rc rl S.off)) (hm : BkM y g b (.slice (some ⟨g, 0, none⟩) S.n c) pv pb w N S.n S.good S.pend) (hs : okD S B) (hB : B ≤ 100000) (hN : N ≤ 1000000) (hv : Vs w vp L fun i => .int .i64 (pk i)) (hL : L ≤ 1000) (hw : ∀ i, i < L → (Lit.int .i64 (pk i)).wf = true) :
    Calls Try.prog 13 #[.pointer (some ⟨y, 0, none⟩), vp] w fun e w' => ∃ y2 g2 b2 c2, e = .returned (.pointer (some ⟨y2, 0, none⟩)) ∧ w'.rowIs y2 67 6 (devF (.slice (some ⟨g2, 0, none⟩) S.n c2) (.map (some b2)) 0 false 0 false) ∧ Ims w' (.slice (some ⟨g2, 0, none⟩) S.n c2) g2 S.n (crI S L pk S.n).good ∧ MpAt w' b2 0 S.n (fun _ => nilV) ∧ y2 ≠ g2 ∧ y2 ≠ b2 ∧ g2 ≠ b2 ∧ w.heap.size ≤ y2 ∧ w.heap.size ≤ g2 ∧ w.heap.size ≤ b2 ∧ Below w.heap.size w w' := by
  have Bw0 := Below.refl w.heap.size w
  have HGS : Hid (∀ wq : World, Below w.heap.size w wq → w.heap.size ≤ wq.heap.size) := Lib.hid fun wq h => h.size
  have e1 : ((S.n : Int) == 0) = false := by have := hm.n1; simp; omega
  have HM := Lib.hid hm
  have HS := Lib.hid hs
  have HB9 := Lib.hid hB
  have HNN := Lib.hid hN
  have HV := Lib.hid hv
  have HL := Lib.hid hL
  have HW := Lib.hid hw
  have HR0 := Lib.hid r_y
  have HPP : Hid (∀ k, k < S.n → (pdP S.pend k = true ↔ pv k ≠ nilV)) := Lib.hid fun k hk => by
    rw [← hm.pvn k hk]
    unfold pdP
    simp
  clear hm hs hB hN hv hL hw
  go_enter Try.func13, Try.ntmps13
  go_wp2_with (first
    | (go_at_call 22
       refine (len_any y g b S.n c S.ops rc rl S.off _ r_y).mono ?_
       rintro e w1 ⟨rfl, rfl⟩)
    | (refine wpList_loadG 60 (.tmp 13) rfl rfl (.slice (some ⟨g, 0, none⟩) S.n c) r_y rfl (by omega) rfl (by kernel_rfl) ?_)
    | (have hgo := Bw0; clear hgo
       go_at_call 31
       refine (clone_any g S.n c _ S.good HM.out.lg HM.out.n1 (by have := HM.out.nn; omega)).mono ?_
       rintro e w2 ⟨g2, c2, rfl, lg2, hg2, kk⟩
       have LG2 := Lib.hid lg2
       have HG2 := Lib.hid hg2
       have HM2 := Lib.hid (HM.out.bel kk)
       replace r_y := zrb r_y kk
       have Bw1 := kk
       clear Bw0 kk lg2 hg2)
    | (have hgo := Bw1; clear hgo
       go_at_call 27
       refine (fresh_any g2 S.n c2 _ S.n).mono ?_
       rintro e w3 ⟨y2, b2, rfl, ly2, lb2, nyb, r_o, m_b, kk⟩
       have NYG : Hid (y2 ≠ g2 ∧ y2 ≠ b2 ∧ g2 ≠ b2) := Lib.hid ⟨Nat.ne_of_gt (Nat.lt_of_lt_of_le HG2.out.lt ly2), nyb, Nat.ne_of_lt (Nat.lt_of_lt_of_le HG2.out.lt lb2)⟩
       have LYB : Hid (w1.heap.size ≤ y2 ∧ w1.heap.size ≤ b2) := Lib.hid ⟨Nat.le_trans (HGS.out _ Bw1) ly2, Nat.le_trans (HGS.out _ Bw1) lb2⟩
       have HG3 := Lib.hid (HG2.out.bel kk)
       have HMB := Lib.hid m_b
       have HM3 := Lib.hid (HM2.out.bel kk)
       replace r_y := zrb r_y kk
       have Bw2 := zbt HGS Bw1 kk
       clear Bw1 kk ly2 lb2 nyb m_b)
    | (refine wpList_loadG 65 (.tmp 19) rfl rfl (.map (some b)) r_y rfl (by omega) rfl (by kernel_rfl) ?_)
    | (have hgo := Bw2; clear hgo
       go_at_call 33
       refine (keys_to (some b) _).mono ?_
       rintro e w4 ⟨Bm, rfl, hcm, lbm, kk⟩
       have HCM := Lib.hid hcm
       have LBM := Lib.hid lbm
       have HG4 := Lib.hid (HG3.out.bel kk)
       have HMB4 := Lib.hid (HMB.out.bel kk)
       have HM4 := Lib.hid (HM3.out.bel kk)
       replace r_o := zrb r_o kk
       have Bw3 := zbt HGS Bw2 kk
       clear Bw2 kk hcm lbm)
    | (have hgo := Bw3; clear hgo
       go_at_call 32
       refine (sortedKeys_any _ Bm b N S.n pv (pdP S.pend) HPP.out HCM.out LBM.out HM4.out.mp HNN.out HM4.out.nn).mono ?_
       rintro e w5 ⟨ak, capk, rfl, hvk, hak, kk⟩
       have HVK := Lib.hid hvk
       have HAK : Hid (∀ x, ak = some x → x.block ≠ g2) := Lib.hid fun x hx e => by have := hak x hx; have := HG4.out.lt; omega
       have HG5 := Lib.hid (HG4.out.bel kk)
       have HMB5 := Lib.hid (HMB4.out.bel kk)
       replace r_o := zrb r_o kk
       have Bw4 := zbt HGS Bw3 kk
       clear Bw3 kk hvk hak))
  obtain ⟨K, hK⟩ : ∃ K, K = (keysL S.n (pdP S.pend)).length := ⟨_, rfl⟩
  rw [← hK] at HVK ⊢
  have HK := Lib.hid hK
  have HKN : Hid (K ≤ S.n) := Lib.hid (by rw [hK, ← cnt_len]; exact cntS_le _ _)
  obtain ⟨ks, hks⟩ : ∃ ks, ks = keysL S.n (pdP S.pend) := ⟨_, rfl⟩
  rw [← hks] at HVK
  have HKS := Lib.hid hks
  clear hK hks r_y
  go_loopw [24] (fun iv wr => ∃ i : Nat, i ≤ K ∧ iv = .int .i64 (i : Int) ∧ Ims wr (.slice (some ⟨g2, 0, none⟩) S.n c2) g2 S.n (crL S L pk i) ∧ wr.rowIs y2 67 6 (devF (.slice (some ⟨g2, 0, none⟩) S.n c2) (.map (some b2)) 0 false 0 false) ∧ MpAt wr b2 0 S.n (fun _ => nilV) ∧ Vs wr (.slice ak K capk) K (fun i => .int .i64 ((ks.getD i 0 : Nat) : Int)) ∧ Below w1.heap.size w1 wr)
    (fun iv _ => K - (intOf iv).toNat)
  case atStart => exact ⟨0, Nat.zero_le _, rfl, by rw [crL_zero]; exact HG5.out, r_o, HMB5.out, HVK.out, Bw4⟩
  case round =>
    clear r_o HG5 HMB5 HVK Bw4 HG2 HG3 HG4 HMB HMB4 HM2 HM3 HM4 HCM LBM
    obtain ⟨i, hi, rfl, hgi, r_o, hmb, hvk, Bw0⟩ := hrel
    have HGI := Lib.hid hgi
    have HMB := Lib.hid hmb
    have HVK := Lib.hid hvk
    by_cases hlt : i < K
    · have hltI : (i : Int) < (K : Int) := by omega
      have hi0 : 0 ≤ (i : Int) ∧ (i : Int) < (K : Int) := by omega
      have HI := Lib.hid hlt
      obtain ⟨i1, hi1⟩ := nat_var (i + 1)
      have HI1 := Lib.hid hi1
      have hw1 : IntKind.i64.wrap ((i : Int) + 1) = (i1 : Int) := by
        have := HKN.out
        have := HM.out.nn
        rw [IntWalk.i64_in _ (by omega)]; omega
      obtain ⟨bb, off, cap', he, _, _, _, hcs⟩ := hvk.open (by omega)
      injection he with h1 h2 h3
      subst h1
      subst h3
      have hcell := hcs i hlt
      obtain ⟨k, hk⟩ : ∃ k, k = ks.getD i 0 := ⟨_, rfl⟩
      rw [← hk] at hcell
      have HCL := Lib.hid hcell
      have hat := keysL_at S.pend S.n i (by rw [← HK.out]; exact hlt)
      rw [← HKS.out, ← hk] at hat
      obtain ⟨hkn, hpn, hck⟩ := hat
      have HKN2 := Lib.hid hkn
      have HPN := Lib.hid hpn
      have HCK := Lib.hid hck
      have hlb := HS.out.cnt k
      obtain ⟨ln, hln⟩ := nat_var (S.pend k).length
      obtain ⟨l2, hl2⟩ := nat_var (2 * ln)
      obtain ⟨m1, hm1⟩ := nat_var (l2 + 1)
      have hb9 := HB9.out
      have hw2 : IntKind.i64.wrap (2 * (ln : Int)) = (l2 : Int) := by rw [IntWalk.i64_in _ (by omega)]; omega
      have hw3 : IntKind.i64.wrap ((l2 : Int) + 1) = (m1 : Int) := by rw [IntWalk.i64_in _ (by omega)]; omega
      have HM1 : Hid (m1 = 2 * (S.pend k).length + 1) := Lib.hid (by omega)
      have HLN := Lib.hid hln
      have HLB : Hid ((S.pend k).length ≤ 200000) := Lib.hid (by omega)
      have HPK : Hid (pickI L pk i m1 = ((pickI L pk i m1).toNat : Int)) := Lib.hid (by
        unfold pickI
        split
        · rfl
        · have := Int.emod_nonneg (pk (i % L)) (b := (m1 : Int)) (by omega)
          omega)
      have HPU : Hid ((pickI L pk i m1).toNat ≤ 2 * (S.pend k).length) := Lib.hid (by
        have hmm := HM1.out
        unfold pickI
        split
        · omega
        · have := Int.emod_nonneg (pk (i % L)) (b := (m1 : Int)) (by omega)
          have := Int.emod_lt_of_pos (pk (i % L)) (b := (m1 : Int)) (by omega)
          omega)
      obtain ⟨P, hP⟩ : ∃ P, P = (pickI L pk i m1).toNat := ⟨_, rfl⟩
      rw [← hP] at HPK HPU
      obtain ⟨ax, cx, hcx⟩ := HM.out.look k hkn
      rw [← hln] at hcx
      have HCX := Lib.hid hcx
      have HMW := Lib.hid (HM.out.bel Bw0)
      have r_y := zrb HR0.out Bw0
      have HVW := Lib.hid (HV.out.bel Bw0)
      have HGL : Hid (∀ j, j ≤ (S.pend k).length → (atB S.good S.pend k j).length = 64) := Lib.hid fun j hj => atS_len S k j (HS.out.good k hkn) (HS.out.pend k hkn) hj
      have HI6 : Hid (i ≤ 1000000) := Lib.hid (by have := HKN.out; have := HM.out.nn; omega)
      clear hi hgi hmb hvk hlt hi1 h2 hcs hcell hk hkn hpn hck hlb hln hl2 hm1 hb9 hP hcx
      go_wp2_with (first
        | (refine wval rfl (.load 3 (.tmp 27)) rfl (.int .i64 (k : Int)) (exec_load_cell _ _ _ _ rfl (by kernel_rfl) HCL.out) ?_))
      have HE : Sam (fun _ => False) wr wr.drew := (Sam.refl _ _).drew
      refine wp_region_linf (Sam (fun _ => False)) (fun w => Sam.refl _ w) (fun _ _ _ h k => h.trans k) 21 40 (.rd 0 (.rd 1 (.rd 2 (.rd 3 (.rd 4 (.rd 5 (.rd 6 (.rd 7 (.rd 8 (.rd 9 (.rd 10 (.rd 11 (.rd 12 (.rd 13 (.rd 14 (.rd 15 (.rd 16 (.rd 17 (.wr 18 (.wr 19 (.rd 20 .done))))))))))))))))))))) (by kernel_rfl) (by kernel_rfl) (by decide) (by kernel_rfl) (fun d _ _ _ _ h => by cases d <;> exact h) ?_
      refine linf_pure 29 _ _ (.pointer (some ⟨y2, 0, none⟩)) rfl rfl rfl rfl rfl (fun wx hx => by unfold mkOp; go_simp; all_goals (with_reducible rfl)) ?_
      simp only [Act.put, zA, zB, zC]
      refine linf_pure 30 _ _ (.pointer (some ⟨y2, 0, none⟩)) rfl rfl rfl rfl rfl (fun wx hx => by unfold mkOp; go_simp; all_goals (with_reducible rfl)) ?_
      simp only [Act.put, zA, zB, zC]
      refine linf_pure 31 _ _ (.pointer (some ⟨y2, 0, none⟩)) rfl rfl rfl rfl rfl (fun wx hx => by unfold mkOp; go_simp; all_goals (with_reducible rfl)) ?_
      simp only [Act.put, zA, zB, zC]
      refine linf_pure 32 _ _ (.slice (some ⟨g2, 0, none⟩) S.n c2) rfl rfl rfl rfl rfl (fun wx hx => exec_loadG _ _ _ _ _ r_o (HE.trans hx) (fun h => h) rfl (by omega) rfl (by kernel_rfl)) ?_
      simp only [Act.put, zA, zB, zC]
      refine linf_pure 33 _ _ (.int .i64 (k : Int)) rfl rfl rfl rfl rfl (fun wx hx => by unfold mkOp; go_simp; all_goals (with_reducible rfl)) ?_
      simp only [Act.put, zA, zB, zC]
      refine linf_pure 34 _ _ (.pointer (some ⟨y, 0, none⟩)) rfl rfl rfl rfl rfl (fun wx hx => by unfold mkOp; go_simp; all_goals (with_reducible rfl)) ?_
      simp only [Act.put, zA, zB, zC]
      refine linf_pure 35 _ _ (.int .i64 (k : Int)) rfl rfl rfl rfl rfl (fun wx hx => by unfold mkOp; go_simp; all_goals (with_reducible rfl)) ?_
      simp only [Act.put, zA, zB, zC]
      refine linf_pure 36 _ _ (vp) rfl rfl rfl rfl rfl (fun wx hx => by unfold mkOp; go_simp; all_goals (with_reducible rfl)) ?_
      simp only [Act.put, zA, zB, zC]
      refine linf_pure 37 _ _ (.int .i64 (i : Int)) rfl rfl rfl rfl rfl (fun wx hx => by unfold mkOp; go_simp; all_goals (with_reducible rfl)) ?_
      simp only [Act.put, zA, zB, zC]
      refine linf_pure 38 _ _ (.pointer (some ⟨y, 0, none⟩)) rfl rfl rfl rfl rfl (fun wx hx => by unfold mkOp; go_simp; all_goals (with_reducible rfl)) ?_
      simp only [Act.put, zA, zB, zC]
      refine linf_pure 39 _ _ (.pointer (some ⟨y, 0, none⟩)) rfl rfl rfl rfl rfl (fun wx hx => by unfold mkOp; go_simp; all_goals (with_reducible rfl)) ?_
      simp only [Act.put, zA, zB, zC]
      refine linf_pure 40 _ _ (.pointer (some ⟨y, 1, none⟩)) rfl rfl rfl rfl rfl (fun wx hx => by unfold mkOp; go_simp; all_goals (with_reducible rfl)) ?_
      simp only [Act.put, zA, zB, zC]
      refine linf_pure 41 _ _ (.map (some b)) rfl rfl rfl rfl rfl (fun wx hx => exec_loadG _ _ _ _ (.map (some b)) r_y (HE.trans hx) (fun h => h) rfl (by omega) rfl (by kernel_rfl)) ?_
      simp only [Act.put, zA, zB, zC]
      refine linf_pure 42 _ _ (.int .i64 (k : Int)) rfl rfl rfl rfl rfl (fun wx hx => by unfold mkOp; go_simp; all_goals (with_reducible rfl)) ?_
      simp only [Act.put, zA, zB, zC]
      refine linf_pure 43 _ _ (.slice ax ln cx) rfl rfl rfl rfl rfl (fun wx hx => by rw [← HCX.out]; exact exec_lookM _ _ _ _ (HMW.out.mp.sam (HE.trans hx) fun h => h) rfl rfl HKN2.out (by have := HMW.out.nn; omega)) ?_
      simp only [Act.put, zA, zB, zC]
      refine linf_pure 44 _ _ (.int .i64 (ln : Int)) rfl rfl rfl rfl rfl (fun wx hx => by unfold mkOp; go_simp; all_goals (with_reducible rfl)) ?_
      simp only [Act.put, zA, zB, zC]
      refine linf_pure 45 _ _ (.int .i64 (l2 : Int)) rfl rfl rfl rfl rfl (fun wx hx => by unfold mkOp; go_simp; all_goals (with_reducible rfl)) ?_
      simp only [Act.put, zA, zB, zC]
      refine linf_pure 46 _ _ (.int .i64 (m1 : Int)) rfl rfl rfl rfl rfl (fun wx hx => by unfold mkOp; go_simp; all_goals (with_reducible rfl)) ?_
      simp only [Act.put, zA, zB, zC]
      refine linf_fn 47 35 _ _ _ (pick_any _ vp L pk i m1 (HVW.out.bel HE.none) HW.out (by have := HM1.out; omega) (by have := HM1.out; have := HLB.out; omega) HI6.out) rfl rfl rfl rfl Try.func35 (by kernel_rfl) (by kernel_rfl) (by go_simp) ?_
      rintro e wf47 ⟨rfl, rfl⟩
      refine ⟨_, rfl, Sam.refl _ _, ?_⟩
      rw [HPK.out]
      simp only [Act.put, zA, zB, zC]
      refine linf_fn 48 34 _ _ _ (crashed_any y g b S.n c S.ops rc rl S.off _ (Sam.row r_y HE fun h => h) (HMW.out.sam HE fun _ h => h.elim) k P HKN2.out HPU.out HLB.out HGL.out) rfl rfl rfl rfl Try.func34 (by kernel_rfl) (by kernel_rfl) (by go_simp) ?_
      rintro e wf48 ⟨rfl, kk⟩
      refine ⟨_, rfl, Sam.of_below kk, ?_⟩
      replace HE : Sam (fun _ => False) wr wf48 := HE.trans (Sam.of_below kk)
      clear kk
      simp only [Act.put, zA, zB, zC]
      refine linf_pure 49 _ _ (.pointer (some ⟨g2, k * 64, none⟩)) rfl rfl rfl rfl rfl (fun wx hx => exec_ixI _ _ _ _ rfl rfl HKN2.out) ?_
      simp only [Act.put, zA, zB, zC]
      refine linf_upd _ _ rfl rfl rfl rfl rfl _ (exec_storeI _ _ _ _ (HGI.out.sam HE fun h => h) rfl rfl HKN2.out) ?_
      rintro w9 ⟨u1, u2⟩
      have hcr := crB_crG S L pk i k P m1 HPN.out HCK.out HM1.out HPK.out
      rw [hcr] at u1
      have HG9 := Lib.hid (u1.congr (crL_step S L pk i k HKN2.out HPN.out HCK.out))
      have r_9 := Sam.row (Sam.row r_o HE fun h => h) u2 NYG.out.1
      have HMB9 := Lib.hid ((HMB.out.sam HE fun h => h).sam u2 (fun e => NYG.out.2.2 e.symm))
      have HVK9 := Lib.hid ((HVK.out.sam HE fun _ _ h => h).sam u2 fun x hx => HAK.out x hx)
      have Bw9 : Below w1.heap.size w1 w9 := (Bw0.trans (HE.none.mono Bw0.size)).trans (u2.below (fun x hx => by rw [hx]; exact LG2.out) (Nat.le_trans Bw0.size HE.size))
      clear u1 u2 hcr HE r_o r_y
      go_wp2
      go_roundw
      case rel => exact ⟨i + 1, HI.out, by rw [HI1.out], HG9.out, r_9, HMB9.out, HVK9.out, Bw9⟩
      case measure => (have := HI.out; have := HI1.out; simp [intOf]; try omega)
    · obtain rfl : i = K := by omega
      have hltI : ¬ (i : Int) < (i : Int) := by omega
      clear hi hlt hgi hmb hvk
      go_wp2
      go_ret
      have hend := HGI.out
      rw [HK.out] at hend
      exact ⟨y2, rfl, g2, b2, c2, r_o, hend.congr (crL_end S L pk), HMB.out, NYG.out.1, NYG.out.2.1, NYG.out.2.2, LYB.out.1, LG2.out, LYB.out.2, Bw0⟩
end Go.Proofs.Ytpilfjdhpahphaa

/- The program's device keeps what is asked of one. -/
namespace Go.Proofs.Ytpilfjdhpahphaa
open Go.RowKit Go.Deep
open Go.Maps (Keyed has IsMap)
set_option linter.unusedSimpArgs false
set_option linter.unusedVariables false

theorem made_at {y g b c : Nat} {w : World} {S : DS} (h1 : 1 ≤ S.n) (h2 : S.n ≤ 65536) (r_y : w.rowIs y 67 6 (devF (.slice (some ⟨g, 0, none⟩) S.n c) (.map (some b)) 0 false 0 false)) (hg : Ims w (.slice (some ⟨g, 0, none⟩) S.n c) g S.n S.good) (hm : MpAt w b 0 S.n fun _ => nilV) (yg : y ≠ g) (yb : y ≠ b) (gb : g ≠ b) (hp : ∀ k, S.pend k = []) (ho : S.ops = 0) (hc : S.cut = false) (hf : S.off = false) :
    BkAt (ownB y g b S.n (fun _ => 0) S.pend) (ownB y g b S.n (fun _ => 0) S.pend) w y S :=
  ⟨g, b, c, fun _ => nilV, fun _ => 0, false, 0, 0, by rw [ho, hf]; exact r_y, ⟨h1, h2, hg, hm, fun k _ => .inl ⟨hp k, rfl⟩, yg, yb, gb, fun k _ h => absurd (hp k) h, fun j k _ _ h => absurd (hp j) h⟩, by omega, ⟨fun h => (by rw [hf] at h; cases h), fun _ => ⟨hc.symm, fun h => (by rw [hc] at h; cases h)⟩⟩, fun _ => Iff.rfl, fun _ => Iff.rfl⟩
theorem new_own {y g b n m : Nat} {pb : Nat → Nat} {pend : Nat → List (List UInt8)} (h1 : m ≤ y) (h2 : m ≤ g) (h3 : m ≤ b) (hp : ∀ k, pend k = []) : ∀ x, ownB y g b n pb pend x → m ≤ x := by
  rintro x (rfl | rfl | rfl | ⟨k, _, h, _⟩)
  · exact h1
  · exact h2
  · exact h3
  · exact absurd (hp k) h
theorem new_no (x : Int) (w : World) (h : ¬ (1 ≤ x ∧ x ≤ 65536)) : Calls Try.prog 10 #[.int .i64 x] w fun e w' => e = .returned (.tuple #[.pointer none, .int .i64 1]) ∧ w' = w := by
  by_cases p : x < 1
  · clear h
    go_enter Try.func10, Try.ntmps10
    go_wp2
    go_ret2
    exact ⟨rfl, rfl⟩
  · have q : (65536 : Int) < x := by omega
    clear h
    go_enter Try.func10, Try.ntmps10
    go_wp2
    go_ret2
    exact ⟨rfl, rfl⟩
set_option maxHeartbeats 4000000 in
set_option maxRecDepth 20000 in
theorem new_yes (n : Nat) (w : World) (h1 : 1 ≤ n) (h2 : n ≤ 65536) : Calls Try.prog 10 #[.int .i64 (n : Int)] w fun e w' => ∃ y T D, e = .returned (.tuple #[.pointer (some ⟨y, 0, none⟩), .int .i64 0]) ∧ BkAt T D w' y (newS n) ∧ (∀ b, D b → w.heap.size ≤ b) ∧ Below w.heap.size w w' := by
  have p1 : ¬ (n : Int) < 1 := by omega
  have p2 : ¬ (65536 : Int) < (n : Int) := by omega
  have Bw0 := Below.refl w.heap.size w
  have HGS : Hid (∀ wq : World, Below w.heap.size w wq → w.heap.size ≤ wq.heap.size) := Lib.hid fun wq h => h.size
  have H1 := Lib.hid h1
  have H2 := Lib.hid h2
  clear h1 h2
  go_enter Try.func10, Try.ntmps10
  go_wp2_with (first
    | (have hgo := Bw0; clear hgo
       refine wmakeI rfl (.tmp 10) rfl n rfl H1.out H2.out ?_
       intro g w1 lg hg kk
       have HG := Lib.hid hg
       have LG := Lib.hid lg
       have Bw1 := kk
       clear Bw0 kk hg lg)
    | (have hgo := Bw1; clear hgo
       go_at_call 27
       refine (fresh_any g n n _ n).mono ?_
       rintro e w2 ⟨y, b, rfl, ly, lb, nyb, r_y, m_b, kk⟩
       have HNE : Hid (y ≠ g ∧ y ≠ b ∧ g ≠ b) := Lib.hid ⟨Nat.ne_of_gt (Nat.lt_of_lt_of_le HG.out.lt ly), nyb, Nat.ne_of_lt (Nat.lt_of_lt_of_le HG.out.lt lb)⟩
       have HLY : Hid (w.heap.size ≤ y ∧ w.heap.size ≤ b) := Lib.hid ⟨Nat.le_trans (HGS.out _ Bw1) ly, Nat.le_trans (HGS.out _ Bw1) lb⟩
       have HG2 := Lib.hid (HG.out.bel kk)
       have HMB := Lib.hid m_b
       have Bw2 := zbt HGS Bw1 kk
       clear Bw1 kk ly lb nyb m_b))
  go_ret2
  exact ⟨y, _, _, rfl, made_at (S := newS n) H1.out H2.out r_y HG2.out HMB.out HNE.out.1 HNE.out.2.1 HNE.out.2.2 (fun _ => rfl) rfl rfl rfl, new_own HLY.out.1 LG.out HLY.out.2 (fun _ => rfl), Bw2⟩
theorem BkAt.same {T D : Nat → Prop} {w : World} {y : Nat} {S : DS} (h : BkAt T D w y S) : BkNew BkAt T D w y S w := ⟨T, D, h, Sam.refl _ _, fun _ h => .inl h, fun _ h => .inl h⟩
theorem BkAt.below {T D : Nat → Prop} {w : World} {y : Nat} {S : DS} (h : BkAt T D w y S) : ∀ b, D b → b < w.heap.size := by
  obtain ⟨g, b, c, pv, pb, rc, rl, N, r_y, hm, hN, hl, hT, hD⟩ := h
  exact fun x hx => hm.lt r_y.lt x ((hD x).1 hx)
theorem write_any (T D : Nat → Prop) (w : World) (y : Nat) (S : DS) (B : Nat) (k : Int) (vb : Value) (b : List UInt8) (h : BkAt T D w y S) (hs : okD S B) (hB : B ≤ 100000) (hb : BsK T w vb b) : Calls Try.prog 19 #[.pointer (some ⟨y, 0, none⟩), .int .i64 k, vb] w fun e w' => e = .returned (.int .i64 (wrE S k b)) ∧ BkNew BkAt T D w y (wrT S k b) w' := by
  obtain ⟨ad, cap, rfl, hc1, hc2, hc3, _⟩ := hb.bs
  by_cases hk : (decide (0 ≤ k) && decide (k < (S.n : Int))) = true
  · by_cases hn : b.length = 64
    · have ha : argS S k b = true := by unfold argS; rw [hk]; simp [hn]
      obtain ⟨k1, k2⟩ : 0 ≤ k ∧ k < (S.n : Int) := by simpa using hk
      unfold wrE wrT
      rw [if_pos ha, if_pos ha]
      cases ho : opOk S with
      | true =>
        rw [if_pos rfl, if_pos rfl]
        obtain ⟨kn, rfl⟩ : ∃ kn : Nat, k = (kn : Int) := ⟨k.toNat, by omega⟩
        cases ad with
        | none => have := hc3 rfl; omega
        | some ax =>
          rw [hn] at hb ⊢
          exact write_ok T D w y S B kn ax cap b h hs hB (by omega) hb ho
      | false =>
        rw [if_neg (by decide), if_neg (by decide)]
        refine (write_off T D w y S B k ad b.length cap h hs hB hk hn ho).mono ?_
        rintro e w' ⟨rfl, h2, h3⟩
        exact ⟨rfl, T, D, h2, h3.one h.ty, fun _ h => .inl h, fun _ h => .inl h⟩
    · have ha : ¬ argS S k b = true := fun h2 => hn (argS_yes h2).2.2
      unfold wrE wrT
      rw [if_neg ha, if_neg ha]
      refine (write_len T D w y S B k ad b.length cap h hk hn).mono ?_
      rintro e w' ⟨rfl, rfl⟩
      exact ⟨rfl, h.same⟩
  · have ha : ¬ argS S k b = true := fun h2 => hk (by obtain ⟨q1, q2, _⟩ := argS_yes h2; simp [q1, q2])
    unfold wrE wrT
    rw [if_neg ha, if_neg ha]
    refine (write_has T D w y S B k ad b.length cap h (by simpa using hk)).mono ?_
    rintro e w' ⟨rfl, rfl⟩
    exact ⟨rfl, h.same⟩
theorem writeN_any (k : Int) (w : World) : Calls Try.prog 19 #[.pointer none, .int .i64 k, .slice none 0 0] w fun e w' => e = .returned (.int .i64 1) ∧ w' = w := by
  go_enter Try.func19, Try.ntmps19
  go_wp2_with (first
    | (go_at_call 38
       refine (hasN_any k _).mono ?_
       rintro e w1 ⟨rfl, rfl⟩))
  go_ret
  exact ⟨rfl, rfl⟩
theorem Below.same (w : World) : Below w.heap.size w w := Below.refl _ _
theorem blkApi : BkApi BkAt where
  sub := fun T D w y S h b hb => by
    obtain ⟨g, b', c, pv, pb, rc, rl, N, r_y, hm, hN, hl, hT, hD⟩ := h
    exact (hD b).2 ((hT b).1 hb)
  lt := fun T D w y S h => h.below
  stay := fun T D F w w' y S h k hF => by
    obtain ⟨g, b', c, pv, pb, rc, rl, N, r_y, hm, hN, hl, hT, hD⟩ := h
    exact ⟨g, b', c, pv, pb, rc, rl, N, Sam.row r_y k fun hf => hF y hf ((hD y).2 (.inl rfl)), hm.sam k fun x hx => .inr fun ho => hF x hx ((hD x).2 ho), hN, hl, hT, hD⟩
  newNo := fun w x h => (new_no x w h).mono fun e w' ⟨h1, h2⟩ => ⟨h1, by rw [h2]; exact Below.refl _ _⟩
  newYes := fun w n h1 h2 => new_yes n w h1 h2
  write := fun T D w y S B k vb b h hs hB hb => write_any T D w y S B k vb b h hs hB hb
  read := fun T D w y S B k h hs hB => by
    obtain ⟨g, b', c, pv, pb, rc, rl, N, r_y, hm, hN, hl, hT, hD⟩ := h
    by_cases hk : 0 ≤ k ∧ k < (S.n : Int)
    · rw [if_pos hk, if_pos hk]
      obtain ⟨kn, rfl⟩ : ∃ kn : Nat, k = (kn : Int) := ⟨k.toNat, by omega⟩
      have := hs.cnt kn
      exact read_raw y g b' S.n c S.ops rc rl S.off w r_y hm kn (by omega) (by omega) (nowS_len hs kn (by omega))
    · rw [if_neg hk, if_neg hk]
      refine (read_out y g b' S.n c S.ops rc rl S.off w r_y k (by simpa using hk)).mono ?_
      rintro e w' ⟨rfl, rfl⟩
      exact ⟨_, rfl, Bs.nil _, Below.refl _ _⟩
  flush := fun T D w y S B h hs hB => by
    unfold flE flT
    cases ho : opOk S with
    | true => exact flush_ok T D w y S B h hs hB ho
    | false =>
      rw [if_neg (by decide), if_neg (by decide)]
      refine (flush_off T D w y S B h hs hB ho).mono ?_
      rintro e w' ⟨rfl, h2, h3⟩
      exact ⟨rfl, T, D, h2, h3.one h.ty, fun _ h => .inl h, fun _ h => .inl h⟩
  cut := fun T D w y S x h => by
    have hty := h.ty
    obtain ⟨g, b', c, pv, pb, rc, rl, N, r_y, hm, hN, hl, hT, hD⟩ := h
    cases ho : S.off with
    | true =>
      refine (cut_off y g b' S.n c S.ops rc rl S.off w r_y hm.n1 ho x).mono ?_
      rintro e w' ⟨rfl, rfl⟩
      exact ⟨rfl, T, D, ⟨g, b', c, pv, pb, rc, rl, N, r_y, hm, hN, ⟨fun _ => hl.1 ho, fun h => (by rw [show (cutS S x).off = S.off from rfl, ho] at h; cases h)⟩, hT, hD⟩, Sam.refl _ _, fun _ h => .inl h, fun _ h => .inl h⟩
    | false =>
      refine (cut_on y g b' S.n c S.ops rc rl S.off w r_y hm.n1 ho x).mono ?_
      rintro e w' ⟨rfl, r2, k2⟩
      refine ⟨rfl, T, D, ⟨g, b', c, pv, pb, true, if x < 0 then 0 else x, N, ?_, hm.sam k2 fun z hz => .inl hz, hN, ⟨fun h => (by rw [show (cutS S x).off = S.off from rfl, ho] at h; cases h), fun _ => ⟨rfl, fun _ => rfl⟩⟩, hT, hD⟩, k2.one hty, fun _ h => .inl h, fun _ h => .inl h⟩
      show w'.rowIs y 67 6 (devF (.slice (some ⟨g, 0, none⟩) S.n c) (.map (some b')) S.ops true (if x < 0 then 0 else x) S.off)
      rw [ho]
      exact r2
  crash := fun T D w y S B L pk vp h hs hB hv hL hw => by
    obtain ⟨g, b', c, pv, pb, rc, rl, N, r_y, hm, hN, hl, hT, hD⟩ := h
    refine (crash_raw y g b' c N B rc rl S w pv pb L pk vp r_y hm hs hB (by have := hs.ops; omega) hv hL hw).mono ?_
    rintro e w' ⟨y2, g2, b2, c2, rfl, r2, q1, q2, n1, n2, n3, l1, l2, l3, kk⟩
    have hown := new_own (n := S.n) (pb := fun _ => 0) (pend := (crI S L pk S.n).pend) l1 l2 l3 (fun _ => rfl)
    exact ⟨y2, _, _, rfl, made_at (S := crI S L pk S.n) hs.n1 hs.n r2 q1 q2 n1 n2 n3 (fun _ => rfl) rfl rfl rfl, kk, hown, fun b hb => .inr (hown b hb)⟩
  copy := fun T D w y S B h hs hB => by
    obtain ⟨g, b', c, pv, pb, rc, rl, N, r_y, hm, hN, hl, hT, hD⟩ := h
    refine (copy_raw y g b' S.n c N S.ops rc rl S.off w r_y hm (fun k _ => by have := hs.cnt k; omega) (by have := hs.ops; omega)).mono ?_
    rintro e w' ⟨y2, g2, b2, c2, pv2, pb2, N2, rfl, r2, q1, q2, hown, kk⟩
    exact ⟨y2, _, _, rfl, ⟨g2, b2, c2, pv2, pb2, rc, rl, N2, r2, q1, by omega, hl, fun _ => Iff.rfl, fun _ => Iff.rfl⟩, kk, hown, fun b hb => .inr (hown b hb)⟩
  len := fun T D w y S B h hs => by
    obtain ⟨g, b', c, pv, pb, rc, rl, N, r_y, hm, hN, hl, hT, hD⟩ := h
    exact (len_any y g b' S.n c S.ops rc rl S.off w r_y).mono fun e w' ⟨h1, h2⟩ => ⟨h1, by rw [h2]; exact Below.refl _ _⟩
  ops := fun T D w y S B h hs => by
    obtain ⟨g, b', c, pv, pb, rc, rl, N, r_y, hm, hN, hl, hT, hD⟩ := h
    exact (ops_any y g b' S.n c S.ops rc rl S.off w r_y).mono fun e w' ⟨h1, h2⟩ => ⟨h1, by rw [h2]; exact Below.refl _ _⟩
  off := fun T D w y S B h hs => by
    obtain ⟨g, b', c, pv, pb, rc, rl, N, r_y, hm, hN, hl, hT, hD⟩ := h
    exact (off_any y g b' S.n c S.ops rc rl S.off w r_y hm.n1).mono fun e w' ⟨h1, h2⟩ => ⟨h1, by rw [h2]; exact Below.refl _ _⟩
  readN := fun w k => (readN_any k w).mono fun e w' ⟨h1, h2⟩ => ⟨_, h1, by rw [h2]; exact Below.refl _ _⟩
  writeN := fun w k => (writeN_any k w).mono fun e w' ⟨h1, h2⟩ => ⟨h1, by rw [h2]; exact Below.refl _ _⟩
  flushN := fun w => (flushN_any w).mono fun e w' ⟨h1, h2⟩ => ⟨h1, by rw [h2]; exact Below.refl _ _⟩
  offN := fun w => (offN_any w).mono fun e w' ⟨h1, h2⟩ => ⟨h1, by rw [h2]; exact Below.refl _ _⟩
  lenN := fun w => (lenN_any w).mono fun e w' ⟨h1, h2⟩ => ⟨h1, by rw [h2]; exact Below.refl _ _⟩
  crashN := fun w k vp _ => (crashN_any w vp).mono fun e w' ⟨h1, h2⟩ => ⟨h1, by rw [h2]; exact Below.refl _ _⟩
  copyN := fun w => (copyN_any w).mono fun e w' ⟨h1, h2⟩ => ⟨h1, by rw [h2]; exact Below.refl _ _⟩
end Go.Proofs.Ytpilfjdhpahphaa

/- BlockGood over a promised device. -/
namespace Go.Proofs.Ytpilfjdhpahphaa
open Go.RowKit Go.Deep
set_option linter.unusedSimpArgs false
set_option linter.unusedVariables false

theorem wk_slice {M : Nat → Prop} {w : World} {v : Value} {L : List (List UInt8)} (h : BssK M w v L) : ∃ a cap, v = .slice a L.length cap ∧ L.length ≤ maxLen := by
  obtain ⟨f, h1, _⟩ := h
  obtain ⟨a, cap, rfl, h3, h4, _⟩ := h1.vs
  exact ⟨a, cap, rfl, Nat.le_trans h3 h4⟩
theorem wk_open {M : Nat → Prop} {w : World} {v : Value} {L : List (List UInt8)} (h : BssK M w v L) (i : Nat) (hi : i < L.length) : ∃ b off cap u, v = .slice (some ⟨b, off, none⟩) L.length cap ∧ b < w.heap.size ∧ w.cell? ⟨b, off + i, none⟩ = some u ∧ BsK M w u L[i] := by
  obtain ⟨f, h1, h2⟩ := h
  obtain ⟨b, off, cap, rfl, _, _, hb, hc⟩ := h1.vs.open (by omega)
  exact ⟨b, off, cap, f i, rfl, hb, hc i hi, h2 i hi⟩
/-- Where a crash leaves a block: as it was flushed, or as a write left it, or torn. -/
theorem crG_case {S : DS} {B : Nat} (h : okD S B) (L : Nat) (pk : Nat → Int) (k : Nat) (hk : k < S.n) :
    crG S L pk k = S.good k ∨ ∃ t, t < (S.pend k).length ∧ (crG S L pk k = (S.pend k).getD t [] ∨ ((crG S L pk k).take 32 = ((S.pend k).getD t []).take 32 ∧ (crG S L pk k).drop 32 = (atS S k t).drop 32)) := by
  have hp := pickS_lt S L pk k
  unfold crG
  split
  · have hl : pickS S L pk k / 2 < (S.pend k).length := by omega
    refine .inr ⟨_, hl, .inr ?_⟩
    have e : ((S.pend k).getD (pickS S L pk k / 2) []).length = 64 := by
      rw [List.getD_eq_getElem?_getD, List.getElem?_eq_getElem hl]
      exact h.pend k hk _ (List.getElem_mem _)
    have e2 : (((S.pend k).getD (pickS S L pk k / 2) []).take 32).length = 32 := by rw [List.length_take, e]; rfl
    exact ⟨by rw [List.take_left' e2], by rw [List.drop_left' e2]⟩
  · by_cases hq : pickS S L pk k / 2 = 0
    · refine .inl ?_
      rw [hq]
      rfl
    · refine .inr ⟨pickS S L pk k / 2 - 1, by omega, .inl ?_⟩
      unfold atS
      rw [if_neg hq]
section
variable {BkAt : (Nat → Prop) → (Nat → Prop) → World → Nat → DS → Prop} (A : BkApi BkAt)
include A
set_option maxHeartbeats 4000000 in
set_option maxRecDepth 20000 in
theorem good_o1 (w : World) (al : Option Addr) (nl cl : Nat) (ap : Option Addr) (np cp : Nat) (h1 : (60 : Int) < (nl : Int)) : Calls Try.prog 4 #[.slice al nl cl, .slice ap np cp] w fun e w' => e = .returned (.bool true) ∧ Below w.heap.size w w' := by
  have HA := Lib.hid A
  have Bw0 := Below.refl w.heap.size w
  clear A
  go_enter Try.func4, Try.ntmps4
  go_wp2_with (first
    | (have hgo := Bw0; clear hgo
       go_at_call 9
       refine (awake15_api HA.out _).mono ?_
       rintro e w1 ⟨rfl, kk⟩
       have Bw1 := Bw0.trans (kk.mono Bw0.size)
       clear Bw0 kk))
  go_ret
  exact ⟨rfl, Bw1⟩
set_option maxHeartbeats 4000000 in
set_option maxRecDepth 20000 in
theorem good_o2 (w : World) (al : Option Addr) (nl cl : Nat) (ap : Option Addr) (np cp : Nat) (h1 : ¬ (60 : Int) < (nl : Int)) (h2 : (30 : Int) < (np : Int)) : Calls Try.prog 4 #[.slice al nl cl, .slice ap np cp] w fun e w' => e = .returned (.bool true) ∧ Below w.heap.size w w' := by
  have HA := Lib.hid A
  have Bw0 := Below.refl w.heap.size w
  clear A
  go_enter Try.func4, Try.ntmps4
  go_wp2_with (first
    | (have hgo := Bw0; clear hgo
       go_at_call 9
       refine (awake15_api HA.out _).mono ?_
       rintro e w1 ⟨rfl, kk⟩
       have Bw1 := Bw0.trans (kk.mono Bw0.size)
       clear Bw0 kk))
  go_ret
  exact ⟨rfl, Bw1⟩
set_option maxHeartbeats 4000000 in
set_option maxRecDepth 20000 in
theorem good_in (w : World) (vl vp : Value) (L : List Sp) (P : List Int) (hL : Sps w vl L) (hP : NumsK .i64 w vp P) (hl : L.length ≤ 60) (hp : P.length ≤ 30) : Calls Try.prog 4 #[vl, vp] w fun e w' => e = .returned (.bool true) ∧ Below w.heap.size w w' := by
  have HA := Lib.hid A
  have HSP := Lib.hid hL
  have HPV := Lib.hid hP.vs
  have HOKL := Lib.hid hL.ok
  obtain ⟨al, cl, rfl, hlc, hcm, hlx, hly⟩ := hL
  obtain ⟨ap, cp, rfl, hpa, hpb, hpc, hpd, hpe⟩ := hP
  clear hlc hcm hlx hly hpa hpb hpc hpd hpe
  generalize hnl : L.length = N at *
  generalize hnp : P.length = NP at *
  have HNL := Lib.hid hnl
  have g2 : ¬ (60 : Int) < (N : Int) := by omega
  have g3 : ¬ (30 : Int) < (NP : Int) := by omega
  have HBD := Lib.hid (And.intro hl hp)
  have HOK0 := Lib.hid (newS_ok 8 (by decide) (by decide))
  have HGS : Hid (∀ wq : World, Below w.heap.size w wq → w.heap.size ≤ wq.heap.size) := Lib.hid fun wq h => h.size
  have Bw0 := Below.refl w.heap.size w
  clear A hl hp hnl hnp
  go_enter Try.func4, Try.ntmps4
  go_wp2_with (first
    | (have hgo := Bw0; clear hgo
       go_at_call 10
       refine (HA.out.newYes _ 8 (by decide) (by decide)).mono ?_
       rintro e wn1 ⟨y, T, D, rfl, hb, hD, kk⟩
       have HB := Lib.hid hb
       have HD := Lib.hid hD
       have Bn1 := Bw0.trans (kk.mono Bw0.size)
       have BS := Lib.hid Bw0.size
       clear Bw0 kk hb hD)
    | (have hgo := Bn1; clear hgo
       go_at_call 11
       refine (devNew_yes T 8 _ (fun b hb => HA.out.lt _ _ _ _ _ HB.out b (HA.out.sub _ _ _ _ _ HB.out b hb)) (by decide) (by decide)).mono ?_
       rintro e wn2 ⟨m, g, wb, rfl, l1, l2, l3, hd, kk⟩
       obtain ⟨hT, hM⟩ := two_new HA.out HB.out (fun b hb => Nat.le_trans BS.out (HD.out b hb)) Bn1 l1 l2 l3 hd kk
       have HT0 := Lib.hid hT
       have HM0 := Lib.hid hM
       have Bn2 := Bn1.trans (kk.mono Bn1.size)
       clear Bn1 kk hd l1 l2 l3 hT hM HB HD BS))
  go_loopw [9] (fun iv wr => ∃ (i : Nat) (M T D : Nat → Prop), i ≤ N ∧ iv = .int .i64 (i : Int) ∧ Two BkAt M T D y m g wb wr (stNTo (newS 8) L i) ∧ (∀ b, M b → w.heap.size ≤ b) ∧ Below w.heap.size w wr) (fun iv _ => N - (intOf iv).toNat)
  case atStart => exact ⟨0, _, T, D, Nat.zero_le _, rfl, HT0.out, HM0.out, Bn2⟩
  case round =>
    clear Bn2 HT0 HM0 T D
    obtain ⟨i, M, T, D, hi, rfl, hT, hM, Bw0⟩ := hrel
    by_cases hlt : i < N
    · have hiI : 0 ≤ (i : Int) ∧ (i : Int) < (N : Int) := by omega
      have hil : i < L.length := by rw [HNL.out]; exact hlt
      obtain ⟨bb, off, cap', he, _, _, hbl, hit⟩ := HSP.out.open_cons (by rw [HNL.out]; omega)
      rw [HNL.out] at he
      cases he
      have HCX := Lib.hid ((hit i hil).cells _ Bw0)
      have hok := stNTo_ok HOK0.out L HOKL.out i (by rw [HNL.out]; exact Nat.le_of_lt hlt)
      have HXO := Lib.hid (HOKL.out L[i] (List.getElem_mem _))
      have HSU := Lib.hid (stNTo_succ (newS 8) L i hil)
      generalize L[i] = X at *
      have HT := Lib.hid hT
      have HM := Lib.hid hM
      have HOK := Lib.hid (hok.more (show 0 + i ≤ 1000 by have := HBD.out; omega))
      have HI := Lib.hid hlt
      obtain ⟨i1, hi1⟩ := nat_var (i + 1)
      have hwi : IntKind.i64.wrap ((i : Int) + 1) = (i1 : Int) := by rw [IntWalk.i64_in _ (by have := HBD.out; omega)]; omega
      have HI1 := Lib.hid hi1
      have M1 := Lib.hid hlt
      clear hi hlt hil hit hbl hi1 hT hM hok
      by_cases hk3 : X.k = 3
      · have hS3 := HSU.out
        rw [if_pos hk3] at hS3
        have HS3 := Lib.hid hS3
        have hc0 := HCX.out 0 (by decide)
        rw [show spF X 0 = .int .i64 3 by unfold spF; rw [if_pos rfl, hk3]] at hc0
        rw [Nat.add_zero] at hc0
        clear hk3 hS3 HCX
        go_wp2
        go_roundw
        case rel => exact ⟨i + 1, M, T, D, HI.out, by rw [HI1.out], by rw [HS3.out]; exact HT.out, HM.out, Bw0⟩
        case measure => (have := HI1.out; have := HI.out; simp [intOf]; try omega)
      · have hS3 := HSU.out
        rw [if_neg hk3] at hS3
        have HS3 := Lib.hid hS3
        have hk4 : (X.k == 3) = false := by simpa using hk3
        have hk5 : (X.k != 3) = true := by simpa using hk3
        have hc0 : World.cell? _ ⟨bb, off + i * 3, none⟩ = some (.int .i64 X.k) := HCX.out 0 (by decide)
        clear hk3 hS3
        go_wp2_with (first
          | (have hgo := M1; clear hgo
             refine wpList_load_cellsW 34 (.tmp 58) rfl rfl 3 arrSp HCX.out rfl ?_
             clear M1)
          | (have hgo := Bw0; clear hgo
             go_at_call 12
             refine (does_any HA.out M T D y m g wb _ _ 1000 X HT.out HOK.out (by decide) HXO.out).mono ?_
             rintro e w4 ⟨rfl, hn⟩
             rw [← HS3.out] at hn
             obtain ⟨M4, T4, D4, hT4, hM4, Bw4⟩ := TwoNew.gone HA.out HT.out HM.out Bw0 hn
             have HT4 := Lib.hid hT4
             have HM4 := Lib.hid hM4
             clear Bw0 hn hT4 hM4 hc0))
        go_roundw
        case rel => exact ⟨i + 1, M4, T4, D4, HI.out, by rw [HI1.out], HT4.out, HM4.out, Bw4⟩
        case measure => (have := HI1.out; have := HI.out; simp [intOf]; try omega)
    · obtain rfl : i = N := by omega
      have hiI : ¬ (i : Int) < (i : Int) := by omega
      obtain ⟨S, hS⟩ : ∃ S, S = stNTo (newS 8) L i := ⟨_, rfl⟩
      have hok : okD S (0 + i) := by rw [hS]; exact stNTo_ok HOK0.out L HOKL.out i (by rw [HNL.out]; exact Nat.le_refl _)
      have hn8 : S.n = 8 := by rw [hS]; exact stNTo_n _ L i (by rw [HNL.out]; exact Nat.le_refl _)
      rw [← hS] at hT
      have HT := Lib.hid hT
      have HOK := Lib.hid (hok.more (show 0 + i ≤ 100 by have := HBD.out; omega))
      have HN8 := Lib.hid hn8
      clear hi hlt hT hM hS hok hn8
      go_wp2_with (first
        | (have hgo := Bw0; clear hgo
           go_at_call 13
           refine (HA.out.crash T D _ y S 100 NP _ _ HT.out.bk HOK.out (by decide) (HPV.out.1.bel Bw0) (by have := HBD.out; omega) HPV.out.2).mono ?_
           rintro e w5 ⟨y5, T5, D5, rfl, hb5, kk, t5, d5⟩
           have HTc := Lib.hid (Two.bel HA.out HT.out kk)
           have HBc := Lib.hid hb5
           have Bw5 := zbt HGS Bw0 kk
           clear Bw0 kk hb5 t5 d5 HT))
      obtain ⟨gc, wc, gf, wf, r_m0, hr0⟩ := HTc.out.dv
      have HR0 := Lib.hid hr0
      rw [HN8.out] at r_m0
      have RM0 := Lib.hid r_m0
      have HCG := Lib.hid fun k (hk : k < S.n) => crG_case HOK.out NP (fun i => P.getD i 0) k hk
      have HCL := Lib.hid fun k (hk : k < S.n) => crG_len HOK.out NP (fun i => P.getD i 0) k hk
      have HG5 : Hid (∀ wq : World, Below w5.heap.size w5 wq → w5.heap.size ≤ wq.heap.size) := Lib.hid fun wq h => h.size
      go_loopw [11] (fun kv wr => ∃ k : Nat, k ≤ 8 ∧ kv = .int .i64 (k : Int) ∧ Below w5.heap.size w5 wr) (fun kv _ => 8 - (intOf kv).toNat)
      case atStart => exact ⟨0, Nat.zero_le _, rfl, Below.refl _ _⟩
      case round =>
        clear r_m0 hr0
        obtain ⟨k, hk, rfl, Bk0⟩ := hrel
        by_cases hlt : k < 8
        · have hkI : 0 ≤ (k : Int) ∧ (k : Int) < 8 := by omega
          have HKN := Lib.hid hlt
          have HK : Hid (k < S.n) := Lib.hid (by rw [HN8.out]; exact hlt)
          have HGL : Hid (8 ≤ gc ∧ 8 ≤ wc) := Lib.hid (by rw [← HN8.out]; exact ⟨HR0.out.gl, HR0.out.wl⟩)
          have hkg : 0 ≤ (k : Int) ∧ (k : Int) < 8 := hkI
          have r_m := zrb RM0.out Bk0
          have r_g := zrb HR0.out.rg Bk0
          have f_o := ((HR0.out.bg k HK.out).step (Sam.of_below Bk0)).bs
          have HWK := Lib.hid (HR0.out.bw k HK.out)
          obtain ⟨GK, hGK⟩ : ∃ G, G = gf k := ⟨_, rfl⟩
          have HGK := Lib.hid hGK
          rw [← hGK] at f_o
          obtain ⟨WK, hWK⟩ : ∃ G, G = wf k := ⟨_, rfl⟩
          have HWKE := Lib.hid hWK
          rw [← hWK] at HWK
          obtain ⟨CB, hCB⟩ : ∃ l, l = crG S NP (fun i => P.getD i 0) k := ⟨_, rfl⟩
          have hcase := HCG.out k HK.out
          have hclen := HCL.out k HK.out
          rw [← hCB] at hcase hclen
          have HCASE := Lib.hid hcase
          have HCLEN := Lib.hid hclen
          have HCB := Lib.hid hCB
          obtain ⟨PL, hPL⟩ : ∃ l, l = S.pend k := ⟨_, rfl⟩
          have HPL := Lib.hid hPL
          have HPC : Hid (PL.length ≤ 100) := Lib.hid (by rw [hPL]; exact HOK.out.cnt k)
          rw [← hPL] at HWK
          obtain ⟨aw, cw, hWs, hwl⟩ := wk_slice HWK.out
          subst hWs
          obtain ⟨k1, hk1⟩ := nat_var (k + 1)
          have e5 : IntKind.i64.wrap ((k : Int) + 1) = (k1 : Int) := by rw [IntWalk.i64_in _ (by omega)]; omega
          have HK1 := Lib.hid hk1
          clear hk hlt hk1 hGK hWK hCB hcase hclen hPL hwl
          go_wp2_with (first
            | (have hgo := Bk0; clear hgo
               go_at_call 16
               refine (read_to HA.out T5 D5 _ y5 _ 0 k (HA.out.stay _ _ (fun _ => False) _ _ _ _ HBc.out (Sam.of_below Bk0) (fun _ h => h.elim)) (crI_ok HOK.out NP _) (by decide) HK.out).mono ?_
               rintro e w6 ⟨v_b, rfl, f_b, kk⟩
               rw [crI_now S NP _ k HK.out, ← HCB.out] at f_b
               obtain ⟨ab, nb, cb, rfl, ql, q2, q3, _⟩ := f_b.shape
               obtain rfl : nb = 64 := by rw [← ql]; exact HCLEN.out
               clear ql q2 q3
               replace f_o := zfb f_o kk
               replace r_m := zrb r_m kk
               replace r_g := zrb r_g kk
               have r_w := zrb HR0.out.rw (Bk0.trans (kk.mono Bk0.size))
               have Bk1 := zbt HG5 Bk0 kk
               clear Bk0 kk))
          obtain ⟨OK0, hOK0⟩ : ∃ q, q = decide (CB = S.good k) := ⟨_, rfl⟩
          have HOK0B := Lib.hid hOK0
          have HG1 := HG5
          replace f_b := f_b.drew
          replace f_o := f_o.drew
          replace r_m := r_m.drew
          replace r_g := r_g.drew
          replace r_w := r_w.drew
          have Bw2 := Bk1.drew
          clear Bk1
          refine wp_region_lint (.rd 0 (.rd 1 (.rd 2 (.rd 3 (.rd 4 (.rd 5 (.rd 6 (.rd 7 (.rd 8 (.rd 9 (.rd 10 (.rd 11 .done)))))))))))) (by kernel_rfl) (by kernel_rfl) (by decide) (by kernel_rfl) (fun d _ _ _ _ h => by cases d <;> exact h) ?_
          refine lint_pure 85 _ _ (.slice ab 64 cb) rfl rfl rfl rfl rfl (fun wx hx => by unfold mkOp; go_simp; all_goals (with_reducible rfl)) ?_
          simp only [Act.put, zA, zB, zC]
          refine lint_conv 86 (.tmp 85) _ _ rfl rfl rfl rfl rfl f_b ?_
          simp only [Act.put, zA, zB, zC]
          refine lint_pure 87 _ _ (.pointer (some ⟨m, 0, none⟩)) rfl rfl rfl rfl rfl (fun wx hx => by unfold mkOp; go_simp; all_goals (with_reducible rfl)) ?_
          simp only [Act.put, zA, zB, zC]
          refine lint_pure 88 _ _ (.pointer (some ⟨m, 0, none⟩)) rfl rfl rfl rfl rfl (fun wx hx => by unfold mkOp; go_simp; all_goals (with_reducible rfl)) ?_
          simp only [Act.put, zA, zB, zC]
          refine lint_pure 89 _ _ (.pointer (some ⟨m, 0, none⟩)) rfl rfl rfl rfl rfl (fun wx hx => by unfold mkOp; go_simp; all_goals (with_reducible rfl)) ?_
          simp only [Act.put, zA, zB, zC]
          refine lint_pure 90 _ _ (.slice (some ⟨g, 0, none⟩) 8 gc) rfl rfl rfl rfl rfl (fun wx hx => exec_load_cell _ _ _ _ rfl (by kernel_rfl) ((zrb r_m hx).cell (by omega))) ?_
          simp only [Act.put, zA, zB, zC]
          refine lint_pure 91 _ _ (.int .i64 (k : Int)) rfl rfl rfl rfl rfl (fun wx hx => by unfold mkOp; go_simp; all_goals (with_reducible rfl)) ?_
          simp only [Act.put, zA, zB, zC]
          refine lint_pure 92 _ _ (.pointer (some ⟨g, k, none⟩)) rfl rfl rfl rfl rfl (fun wx hx => by unfold mkOp; go_simp; all_goals (with_reducible rfl)) ?_
          simp only [Act.put, zA, zB, zC]
          refine lint_pure 93 _ _ (GK) rfl rfl rfl rfl rfl (fun wx hx => by rw [HGK.out]; exact exec_load_cell _ _ _ _ rfl (by kernel_rfl) ((zrb r_g hx).cell (by have := HGL.out; have := HKN.out; omega))) ?_
          simp only [Act.put, zA, zB, zC]
          refine lint_conv 94 (.tmp 93) _ _ rfl rfl rfl rfl rfl f_o ?_
          simp only [Act.put, zA, zB, zC]
          refine lint_pure 95 _ _ (.bool OK0) rfl rfl rfl rfl rfl (fun wx hx => by rw [HOK0B.out]; exact exec_strD _ _ _ _ rfl rfl) ?_
          simp only [Act.put, zA, zB, zC]
          refine lint_pure 14 _ _ (.bool OK0) rfl rfl rfl rfl rfl (fun wx hx => by unfold mkOp; go_simp; all_goals (with_reducible rfl)) ?_
          simp only [Act.put, zA, zB, zC]
          refine lint_end ?_
          clear hOK0
          go_wp2_with (first
            | (have hgo := Bw2; clear hgo
               refine wpList_loadG 42 (.tmp 98) rfl rfl (.slice (some ⟨g, 0, none⟩) 8 gc) r_m rfl (by omega) rfl (by kernel_rfl) ?_)
            | (have hgo := Bw2; clear hgo
               refine wpList_loadG 39 (.tmp 101) rfl rfl GK r_g rfl (by have := HGL.out.1; have := HKN.out; omega) HGK.out.symm (by kernel_rfl) ?_))
          have HST : Hid (OK0 = true ∨ (OK0 = false ∧ ∃ t, t < PL.length ∧ (CB = PL.getD t [] ∨ (CB.take 32 = (PL.getD t []).take 32 ∧ CB.drop 32 = (atS S k t).drop 32)))) := Lib.hid (by
            by_cases hq : CB = S.good k
            · exact .inl (by rw [HOK0B.out]; exact decide_eq_true hq)
            · refine .inr ⟨by rw [HOK0B.out]; exact decide_eq_false hq, ?_⟩
              rw [HPL.out]
              exact HCASE.out.resolve_left hq)
          obtain ⟨tt, HTT⟩ : ∃ tt, Hid (OK0 = true ∨ (OK0 = false ∧ tt < PL.length ∧ (CB = PL.getD tt [] ∨ (CB.take 32 = (PL.getD tt []).take 32 ∧ CB.drop 32 = (atS S k tt).drop 32)))) := by
            rcases HST.out with h | ⟨h, t, h2⟩
            · exact ⟨0, Lib.hid (.inl h)⟩
            · exact ⟨t, Lib.hid (.inr ⟨h, h2⟩)⟩
          have FB := Lib.hid f_b
          have RM := Lib.hid r_m
          have RW := Lib.hid r_w
          have FO := Lib.hid f_o
          have BK := Lib.hid Bw2
          clear HST
          go_loopw [14, 15, 16] (fun ov lv iv wr => ∃ (i : Nat) (q : Bool), i ≤ PL.length ∧ iv = .int .i64 (i : Int) ∧ ov = .bool q ∧ (q = true ∨ (q = false ∧ tt < PL.length ∧ (CB = PL.getD tt [] ∨ (CB.take 32 = (PL.getD tt []).take 32 ∧ CB.drop 32 = (atS S k tt).drop 32)) ∧ i ≤ tt ∧ Bs wr lv (atS S k i))) ∧ Bs wr (.slice ab 64 cb) CB ∧ wr.rowIs m 45 6 (devF (.slice (some ⟨g, 0, none⟩) 8 gc) (.slice (some ⟨wb, 0, none⟩) 8 wc) (S.ops : Int) S.cut S.left S.off) ∧ wr.rowIs wb 42 wc wf ∧ Below w5.heap.size w5 wr) (fun _ _ iv _ => PL.length - (intOf iv).toNat)
          case atStart =>
            refine ⟨0, OK0, Nat.zero_le _, rfl, rfl, HTT.out.imp id (fun h => ⟨h.1, h.2.1, h.2.2, Nat.zero_le _, FO.out⟩), FB.out, RM.out, RW.out, BK.out⟩
          case round =>
            clear f_b r_m r_w f_o r_g Bw2 FB RM RW FO BK HTT HOK0B
            obtain ⟨i, q, hi, rfl, rfl, hq, f_b, r_m, r_w, Bi0⟩ := hrel
            cases q with
            | true =>
              clear hq
              by_cases hil : i < PL.length
              · have hilI : (i : Int) < (PL.length : Int) := by omega
                clear hil hi
                go_wp2_with (first
                  | (have hgo := Bi0; clear hgo
                     refine wpList_loadG 43 (.tmp 106) rfl rfl (.slice (some ⟨wb, 0, none⟩) 8 wc) r_m rfl (by omega) rfl (by kernel_rfl) ?_)
                  | (have hgo := Bi0; clear hgo
                     refine wpList_loadG 42 (.tmp 109) rfl rfl _ r_w rfl (by have := HGL.out.2; have := HKN.out; omega) HWKE.out.symm (by kernel_rfl) ?_))
                go_roundw
                case rel => exact ⟨k + 1, HKN.out, by rw [HK1.out], Bi0⟩
                case measure => (have := HK1.out; have := HKN.out; simp [intOf]; try omega)
              · have hilI : ¬ (i : Int) < (PL.length : Int) := by omega
                clear hil hi
                go_wp2_with (first
                  | (have hgo := Bi0; clear hgo
                     refine wpList_loadG 43 (.tmp 106) rfl rfl (.slice (some ⟨wb, 0, none⟩) 8 wc) r_m rfl (by omega) rfl (by kernel_rfl) ?_)
                  | (have hgo := Bi0; clear hgo
                     refine wpList_loadG 42 (.tmp 109) rfl rfl _ r_w rfl (by have := HGL.out.2; have := HKN.out; omega) HWKE.out.symm (by kernel_rfl) ?_))
                go_roundw
                case rel => exact ⟨k + 1, HKN.out, by rw [HK1.out], Bi0⟩
                case measure => (have := HK1.out; have := HKN.out; simp [intOf]; try omega)
            | false =>
              have hq2 := hq.resolve_left (by decide)
              obtain ⟨_, htl, hcs, hit, f_l⟩ := hq2
              have hil : i < PL.length := by omega
              have hilI : 0 ≤ (i : Int) ∧ (i : Int) < (PL.length : Int) := by omega
              have HIL := Lib.hid (And.intro hil (And.intro hit (And.intro htl hcs)))
              obtain ⟨bw2, ow, cw2, u, he, hbl, hcj, hu⟩ := wk_open (HWK.out.step (Sam.of_below Bi0)) i hil
              cases he
              have f_u := hu.bs
              have HPI : Hid (PL[i] = PL.getD i [] ∧ PL[i].length = 64) := Lib.hid ⟨by rw [List.getD_eq_getElem?_getD, List.getElem?_eq_getElem hil]; rfl, HOK.out.pend k HK.out _ (by rw [← HPL.out]; exact List.getElem_mem _)⟩
              have HAT : Hid (atS S k (i + 1) = PL[i]) := Lib.hid (by
                unfold atS
                rw [if_neg (Nat.succ_ne_zero i), Nat.add_sub_cancel, ← HPL.out, List.getD_eq_getElem?_getD, List.getElem?_eq_getElem hil]
                rfl)
              generalize PL[i] = WI at *
              obtain ⟨LI, hLI⟩ : ∃ l, l = atS S k i := ⟨_, rfl⟩
              have HLI := Lib.hid hLI
              have HLL : Hid (LI.length = 64) := Lib.hid (by rw [hLI]; exact atS_len64 HOK.out k i HK.out (by rw [← HPL.out]; omega))
              rw [← hLI] at f_l
              obtain ⟨al2, nl2, cl2, rfl, ql, q2, q3, _⟩ := f_l.shape
              obtain rfl : nl2 = 64 := by rw [← ql]; exact HLL.out
              obtain ⟨au, nu, cu, rfl, ql2, q22, q32, _⟩ := f_u.shape
              obtain rfl : nu = 64 := by rw [← ql2]; exact HPI.out.2
              obtain ⟨i1, hi1⟩ := nat_var (i + 1)
              have hwi : IntKind.i64.wrap ((i : Int) + 1) = (i1 : Int) := by rw [IntWalk.i64_in _ (by have := HPC.out; omega)]; omega
              have HI1 := Lib.hid hi1
              clear hq hi htl hcs hit hil hbl hu hLI ql q2 q3 ql2 q22 q32 hi1
              go_wp2_with (first
                | (have hgo := Bi0; clear hgo
                   refine wpList_loadG 43 (.tmp 106) rfl rfl (.slice (some ⟨wb, 0, none⟩) 8 wc) r_m rfl (by omega) rfl (by kernel_rfl) ?_)
                | (have hgo := Bi0; clear hgo
                   refine wpList_loadG 42 (.tmp 109) rfl rfl _ r_w rfl (by have := HGL.out.2; have := HKN.out; omega) HWKE.out.symm (by kernel_rfl) ?_)
                | (have hgo := Bi0; clear hgo
                   refine wpList_loadG 43 (.tmp 121) rfl rfl (.slice (some ⟨wb, 0, none⟩) 8 wc) r_m rfl (by omega) rfl (by kernel_rfl) ?_)
                | (have hgo := Bi0; clear hgo
                   refine wpList_loadG 42 (.tmp 124) rfl rfl _ r_w rfl (by have := HGL.out.2; have := HKN.out; omega) HWKE.out.symm (by kernel_rfl) ?_))
              obtain ⟨b1, b2, F1, F2, E1, E2⟩ := cut32 f_b HCLEN.out
              obtain ⟨u1, u2, G1, G2, E3, E4⟩ := cut32 f_u HPI.out.2
              obtain ⟨l1, l2, G3, G4, E5, E6⟩ := cut32 f_l HLL.out
              have HE := Lib.hid (And.intro E1 (And.intro E2 (And.intro E3 E6)))
              have f_b1 := F1 _ (Below.refl _ _)
              have f_b2 := F2 _ (Below.refl _ _)
              have f_u1 := G1 _ (Below.refl _ _)
              have f_l2 := G4 _ (Below.refl _ _)
              clear F1 F2 G1 G2 G3 G4 E1 E2 E3 E4 E5 E6
              have HG6 := HG5
              by_cases q1 : CB = WI
              · have HQ133 := Lib.hid (decide_eq_true q1)
                clear q1
                replace f_b := f_b.drew
                replace f_u := f_u.drew
                replace f_l := f_l.drew
                replace f_b1 := f_b1.drew
                replace f_b2 := f_b2.drew
                replace f_u1 := f_u1.drew
                replace f_l2 := f_l2.drew
                replace r_m := r_m.drew
                replace r_w := r_w.drew
                have Bw1 := Bi0.drew
                clear Bi0
                refine wp_region_lint (.rd 0 (.rd 1 (.rd 2 (.rd 3 (.rd 4 (.rd 5 (.rd 6 (.rd 7 (.rd 8 (.rd 9 (.rd 10 (.rd 11 (.rd 12 (.rd 13 (.rd 14 (.rd 15 (.rd 16 (.rd 17 (.rd 18 (.rd 19 (.rd 20 (.rd 21 (.rd 22 (.rd 23 .done)))))))))))))))))))))))) (by kernel_rfl) (by kernel_rfl) (by decide) (by kernel_rfl) (fun d _ _ _ _ h => by cases d <;> exact h) ?_
                refine lint_pure 129 _ _ (.slice ab 64 cb) rfl rfl rfl rfl rfl (fun wx hx => by unfold mkOp; go_simp; all_goals (with_reducible rfl)) ?_
                simp only [Act.put, zA, zB, zC]
                refine lint_conv 130 (.tmp 129) _ _ rfl rfl rfl rfl rfl f_b ?_
                simp only [Act.put, zA, zB, zC]
                refine lint_pure 131 _ _ (.slice au 64 cu) rfl rfl rfl rfl rfl (fun wx hx => by unfold mkOp; go_simp; all_goals (with_reducible rfl)) ?_
                simp only [Act.put, zA, zB, zC]
                refine lint_conv 132 (.tmp 131) _ _ rfl rfl rfl rfl rfl f_u ?_
                simp only [Act.put, zA, zB, zC]
                refine lint_pure 133 _ _ (.bool true) rfl rfl rfl rfl rfl (fun wx hx => exec_strE _ _ _ _ HQ133.out rfl rfl) ?_
                simp only [Act.put, zA, zB, zC]
                refine lint_pure 134 _ _ (.bool true) rfl rfl rfl rfl rfl (fun wx hx => by unfold mkOp; go_simp; all_goals (with_reducible rfl)) ?_
                simp only [Act.put, zA, zB, zC]
                refine lint_none 135 rfl rfl rfl ?_
                simp only [Act.put, zA, zB, zC]
                refine lint_none 136 rfl rfl rfl ?_
                simp only [Act.put, zA, zB, zC]
                refine lint_none 137 rfl rfl rfl ?_
                simp only [Act.put, zA, zB, zC]
                refine lint_none 138 rfl rfl rfl ?_
                simp only [Act.put, zA, zB, zC]
                refine lint_none 139 rfl rfl rfl ?_
                simp only [Act.put, zA, zB, zC]
                refine lint_none 140 rfl rfl rfl ?_
                simp only [Act.put, zA, zB, zC]
                refine lint_none 141 rfl rfl rfl ?_
                simp only [Act.put, zA, zB, zC]
                refine lint_none 142 rfl rfl rfl ?_
                simp only [Act.put, zA, zB, zC]
                refine lint_none 143 rfl rfl rfl ?_
                simp only [Act.put, zA, zB, zC]
                refine lint_none 144 rfl rfl rfl ?_
                simp only [Act.put, zA, zB, zC]
                refine lint_none 145 rfl rfl rfl ?_
                simp only [Act.put, zA, zB, zC]
                refine lint_none 146 rfl rfl rfl ?_
                simp only [Act.put, zA, zB, zC]
                refine lint_none 147 rfl rfl rfl ?_
                simp only [Act.put, zA, zB, zC]
                refine lint_none 148 rfl rfl rfl ?_
                simp only [Act.put, zA, zB, zC]
                refine lint_none 149 rfl rfl rfl ?_
                simp only [Act.put, zA, zB, zC]
                refine lint_none 150 rfl rfl rfl ?_
                simp only [Act.put, zA, zB, zC]
                refine lint_pure 151 _ _ (.bool true) rfl rfl rfl rfl rfl (fun wx hx => by unfold mkOp; go_simp; all_goals (with_reducible rfl)) ?_
                simp only [Act.put, zA, zB, zC]
                refine lint_pure 14 _ _ (.bool true) rfl rfl rfl rfl rfl (fun wx hx => by unfold mkOp; go_simp; all_goals (with_reducible rfl)) ?_
                simp only [Act.put, zA, zB, zC]
                refine lint_end ?_
                go_wp2
                go_roundw
                case rel => exact ⟨i + 1, true, HIL.out.1, by rw [HI1.out], rfl, .inl rfl, f_b, r_m, r_w, Bw1⟩
                case measure => (have := HI1.out; have := HIL.out.1; simp [intOf]; try omega)
              · have HQ133 := Lib.hid (decide_eq_false q1)
                by_cases q2 : CB.take 32 = WI.take 32
                · have HQ141 := Lib.hid (decide_eq_true q2)
                  by_cases q3 : CB.drop 32 = LI.drop 32
                  · have HQ149 := Lib.hid (decide_eq_true q3)
                    clear q1 q2 q3
                    replace f_b := f_b.drew
                    replace f_u := f_u.drew
                    replace f_l := f_l.drew
                    replace f_b1 := f_b1.drew
                    replace f_b2 := f_b2.drew
                    replace f_u1 := f_u1.drew
                    replace f_l2 := f_l2.drew
                    replace r_m := r_m.drew
                    replace r_w := r_w.drew
                    have Bw1 := Bi0.drew
                    clear Bi0
                    refine wp_region_lint (.rd 0 (.rd 1 (.rd 2 (.rd 3 (.rd 4 (.rd 5 (.rd 6 (.rd 7 (.rd 8 (.rd 9 (.rd 10 (.rd 11 (.rd 12 (.rd 13 (.rd 14 (.rd 15 (.rd 16 (.rd 17 (.rd 18 (.rd 19 (.rd 20 (.rd 21 (.rd 22 (.rd 23 .done)))))))))))))))))))))))) (by kernel_rfl) (by kernel_rfl) (by decide) (by kernel_rfl) (fun d _ _ _ _ h => by cases d <;> exact h) ?_
                    refine lint_pure 129 _ _ (.slice ab 64 cb) rfl rfl rfl rfl rfl (fun wx hx => by unfold mkOp; go_simp; all_goals (with_reducible rfl)) ?_
                    simp only [Act.put, zA, zB, zC]
                    refine lint_conv 130 (.tmp 129) _ _ rfl rfl rfl rfl rfl f_b ?_
                    simp only [Act.put, zA, zB, zC]
                    refine lint_pure 131 _ _ (.slice au 64 cu) rfl rfl rfl rfl rfl (fun wx hx => by unfold mkOp; go_simp; all_goals (with_reducible rfl)) ?_
                    simp only [Act.put, zA, zB, zC]
                    refine lint_conv 132 (.tmp 131) _ _ rfl rfl rfl rfl rfl f_u ?_
                    simp only [Act.put, zA, zB, zC]
                    refine lint_pure 133 _ _ (.bool false) rfl rfl rfl rfl rfl (fun wx hx => exec_strE _ _ _ _ HQ133.out rfl rfl) ?_
                    simp only [Act.put, zA, zB, zC]
                    refine lint_pure 134 _ _ (.bool false) rfl rfl rfl rfl rfl (fun wx hx => by unfold mkOp; go_simp; all_goals (with_reducible rfl)) ?_
                    simp only [Act.put, zA, zB, zC]
                    refine lint_pure 135 _ _ (.slice ab 64 cb) rfl rfl rfl rfl rfl (fun wx hx => by unfold mkOp; go_simp; all_goals (with_reducible rfl)) ?_
                    simp only [Act.put, zA, zB, zC]
                    refine lint_pure 136 _ _ (b1) rfl rfl rfl rfl rfl (fun wx hx => HE.out.1 _ _ _ _ _ rfl rfl) ?_
                    simp only [Act.put, zA, zB, zC]
                    refine lint_conv 137 (.tmp 136) _ _ rfl rfl rfl rfl rfl f_b1 ?_
                    simp only [Act.put, zA, zB, zC]
                    refine lint_pure 138 _ _ (.slice au 64 cu) rfl rfl rfl rfl rfl (fun wx hx => by unfold mkOp; go_simp; all_goals (with_reducible rfl)) ?_
                    simp only [Act.put, zA, zB, zC]
                    refine lint_pure 139 _ _ (u1) rfl rfl rfl rfl rfl (fun wx hx => HE.out.2.2.1 _ _ _ _ _ rfl rfl) ?_
                    simp only [Act.put, zA, zB, zC]
                    refine lint_conv 140 (.tmp 139) _ _ rfl rfl rfl rfl rfl f_u1 ?_
                    simp only [Act.put, zA, zB, zC]
                    refine lint_pure 141 _ _ (.bool true) rfl rfl rfl rfl rfl (fun wx hx => exec_strE _ _ _ _ HQ141.out rfl rfl) ?_
                    simp only [Act.put, zA, zB, zC]
                    refine lint_pure 142 _ _ (.bool true) rfl rfl rfl rfl rfl (fun wx hx => by unfold mkOp; go_simp; all_goals (with_reducible rfl)) ?_
                    simp only [Act.put, zA, zB, zC]
                    refine lint_pure 143 _ _ (.slice ab 64 cb) rfl rfl rfl rfl rfl (fun wx hx => by unfold mkOp; go_simp; all_goals (with_reducible rfl)) ?_
                    simp only [Act.put, zA, zB, zC]
                    refine lint_pure 144 _ _ (b2) rfl rfl rfl rfl rfl (fun wx hx => HE.out.2.1 _ _ _ _ _ rfl rfl) ?_
                    simp only [Act.put, zA, zB, zC]
                    refine lint_conv 145 (.tmp 144) _ _ rfl rfl rfl rfl rfl f_b2 ?_
                    simp only [Act.put, zA, zB, zC]
                    refine lint_pure 146 _ _ (.slice al2 64 cl2) rfl rfl rfl rfl rfl (fun wx hx => by unfold mkOp; go_simp; all_goals (with_reducible rfl)) ?_
                    simp only [Act.put, zA, zB, zC]
                    refine lint_pure 147 _ _ (l2) rfl rfl rfl rfl rfl (fun wx hx => HE.out.2.2.2 _ _ _ _ _ rfl rfl) ?_
                    simp only [Act.put, zA, zB, zC]
                    refine lint_conv 148 (.tmp 147) _ _ rfl rfl rfl rfl rfl f_l2 ?_
                    simp only [Act.put, zA, zB, zC]
                    refine lint_pure 149 _ _ (.bool true) rfl rfl rfl rfl rfl (fun wx hx => exec_strE _ _ _ _ HQ149.out rfl rfl) ?_
                    simp only [Act.put, zA, zB, zC]
                    refine lint_pure 150 _ _ (.bool true) rfl rfl rfl rfl rfl (fun wx hx => by unfold mkOp; go_simp; all_goals (with_reducible rfl)) ?_
                    simp only [Act.put, zA, zB, zC]
                    refine lint_pure 151 _ _ (.bool true) rfl rfl rfl rfl rfl (fun wx hx => by unfold mkOp; go_simp; all_goals (with_reducible rfl)) ?_
                    simp only [Act.put, zA, zB, zC]
                    refine lint_pure 14 _ _ (.bool true) rfl rfl rfl rfl rfl (fun wx hx => by unfold mkOp; go_simp; all_goals (with_reducible rfl)) ?_
                    simp only [Act.put, zA, zB, zC]
                    refine lint_end ?_
                    go_wp2
                    go_roundw
                    case rel => exact ⟨i + 1, true, HIL.out.1, by rw [HI1.out], rfl, .inl rfl, f_b, r_m, r_w, Bw1⟩
                    case measure => (have := HI1.out; have := HIL.out.1; simp [intOf]; try omega)
                  · have HQ149 := Lib.hid (decide_eq_false q3)
                    have HNE : Hid (i + 1 ≤ tt) := Lib.hid (by
                      by_cases he : i = tt
                      · exfalso
                        have hc := HIL.out.2.2.2
                        rw [← he, ← HPI.out.1, ← HLI.out] at hc
                        rcases hc with hc | hc
                        · exact q1 hc
                        · exact q3 hc.2
                      · have := HIL.out.2.1; omega)
                    clear q1 q2 q3
                    replace f_b := f_b.drew
                    replace f_u := f_u.drew
                    replace f_l := f_l.drew
                    replace f_b1 := f_b1.drew
                    replace f_b2 := f_b2.drew
                    replace f_u1 := f_u1.drew
                    replace f_l2 := f_l2.drew
                    replace r_m := r_m.drew
                    replace r_w := r_w.drew
                    have Bw1 := Bi0.drew
                    clear Bi0
                    refine wp_region_lint (.rd 0 (.rd 1 (.rd 2 (.rd 3 (.rd 4 (.rd 5 (.rd 6 (.rd 7 (.rd 8 (.rd 9 (.rd 10 (.rd 11 (.rd 12 (.rd 13 (.rd 14 (.rd 15 (.rd 16 (.rd 17 (.rd 18 (.rd 19 (.rd 20 (.rd 21 (.rd 22 (.rd 23 .done)))))))))))))))))))))))) (by kernel_rfl) (by kernel_rfl) (by decide) (by kernel_rfl) (fun d _ _ _ _ h => by cases d <;> exact h) ?_
                    refine lint_pure 129 _ _ (.slice ab 64 cb) rfl rfl rfl rfl rfl (fun wx hx => by unfold mkOp; go_simp; all_goals (with_reducible rfl)) ?_
                    simp only [Act.put, zA, zB, zC]
                    refine lint_conv 130 (.tmp 129) _ _ rfl rfl rfl rfl rfl f_b ?_
                    simp only [Act.put, zA, zB, zC]
                    refine lint_pure 131 _ _ (.slice au 64 cu) rfl rfl rfl rfl rfl (fun wx hx => by unfold mkOp; go_simp; all_goals (with_reducible rfl)) ?_
                    simp only [Act.put, zA, zB, zC]
                    refine lint_conv 132 (.tmp 131) _ _ rfl rfl rfl rfl rfl f_u ?_
                    simp only [Act.put, zA, zB, zC]
                    refine lint_pure 133 _ _ (.bool false) rfl rfl rfl rfl rfl (fun wx hx => exec_strE _ _ _ _ HQ133.out rfl rfl) ?_
                    simp only [Act.put, zA, zB, zC]
                    refine lint_pure 134 _ _ (.bool false) rfl rfl rfl rfl rfl (fun wx hx => by unfold mkOp; go_simp; all_goals (with_reducible rfl)) ?_
                    simp only [Act.put, zA, zB, zC]
                    refine lint_pure 135 _ _ (.slice ab 64 cb) rfl rfl rfl rfl rfl (fun wx hx => by unfold mkOp; go_simp; all_goals (with_reducible rfl)) ?_
                    simp only [Act.put, zA, zB, zC]
                    refine lint_pure 136 _ _ (b1) rfl rfl rfl rfl rfl (fun wx hx => HE.out.1 _ _ _ _ _ rfl rfl) ?_
                    simp only [Act.put, zA, zB, zC]
                    refine lint_conv 137 (.tmp 136) _ _ rfl rfl rfl rfl rfl f_b1 ?_
                    simp only [Act.put, zA, zB, zC]
                    refine lint_pure 138 _ _ (.slice au 64 cu) rfl rfl rfl rfl rfl (fun wx hx => by unfold mkOp; go_simp; all_goals (with_reducible rfl)) ?_
                    simp only [Act.put, zA, zB, zC]
                    refine lint_pure 139 _ _ (u1) rfl rfl rfl rfl rfl (fun wx hx => HE.out.2.2.1 _ _ _ _ _ rfl rfl) ?_
                    simp only [Act.put, zA, zB, zC]
                    refine lint_conv 140 (.tmp 139) _ _ rfl rfl rfl rfl rfl f_u1 ?_
                    simp only [Act.put, zA, zB, zC]
                    refine lint_pure 141 _ _ (.bool true) rfl rfl rfl rfl rfl (fun wx hx => exec_strE _ _ _ _ HQ141.out rfl rfl) ?_
                    simp only [Act.put, zA, zB, zC]
                    refine lint_pure 142 _ _ (.bool true) rfl rfl rfl rfl rfl (fun wx hx => by unfold mkOp; go_simp; all_goals (with_reducible rfl)) ?_
                    simp only [Act.put, zA, zB, zC]
                    refine lint_pure 143 _ _ (.slice ab 64 cb) rfl rfl rfl rfl rfl (fun wx hx => by unfold mkOp; go_simp; all_goals (with_reducible rfl)) ?_
                    simp only [Act.put, zA, zB, zC]
                    refine lint_pure 144 _ _ (b2) rfl rfl rfl rfl rfl (fun wx hx => HE.out.2.1 _ _ _ _ _ rfl rfl) ?_
                    simp only [Act.put, zA, zB, zC]
                    refine lint_conv 145 (.tmp 144) _ _ rfl rfl rfl rfl rfl f_b2 ?_
                    simp only [Act.put, zA, zB, zC]
                    refine lint_pure 146 _ _ (.slice al2 64 cl2) rfl rfl rfl rfl rfl (fun wx hx => by unfold mkOp; go_simp; all_goals (with_reducible rfl)) ?_
                    simp only [Act.put, zA, zB, zC]
                    refine lint_pure 147 _ _ (l2) rfl rfl rfl rfl rfl (fun wx hx => HE.out.2.2.2 _ _ _ _ _ rfl rfl) ?_
                    simp only [Act.put, zA, zB, zC]
                    refine lint_conv 148 (.tmp 147) _ _ rfl rfl rfl rfl rfl f_l2 ?_
                    simp only [Act.put, zA, zB, zC]
                    refine lint_pure 149 _ _ (.bool false) rfl rfl rfl rfl rfl (fun wx hx => exec_strE _ _ _ _ HQ149.out rfl rfl) ?_
                    simp only [Act.put, zA, zB, zC]
                    refine lint_pure 150 _ _ (.bool false) rfl rfl rfl rfl rfl (fun wx hx => by unfold mkOp; go_simp; all_goals (with_reducible rfl)) ?_
                    simp only [Act.put, zA, zB, zC]
                    refine lint_pure 151 _ _ (.bool false) rfl rfl rfl rfl rfl (fun wx hx => by unfold mkOp; go_simp; all_goals (with_reducible rfl)) ?_
                    simp only [Act.put, zA, zB, zC]
                    refine lint_pure 14 _ _ (.bool false) rfl rfl rfl rfl rfl (fun wx hx => by unfold mkOp; go_simp; all_goals (with_reducible rfl)) ?_
                    simp only [Act.put, zA, zB, zC]
                    refine lint_end ?_
                    go_wp2
                    go_roundw
                    case rel => exact ⟨i + 1, false, HIL.out.1, by rw [HI1.out], rfl, .inr ⟨rfl, HIL.out.2.2.1, HIL.out.2.2.2, HNE.out, by rw [HAT.out]; exact f_u⟩, f_b, r_m, r_w, Bw1⟩
                    case measure => (have := HI1.out; have := HIL.out.1; simp [intOf]; try omega)
                · have HQ141 := Lib.hid (decide_eq_false q2)
                  have HNE : Hid (i + 1 ≤ tt) := Lib.hid (by
                    by_cases he : i = tt
                    · exfalso
                      have hc := HIL.out.2.2.2
                      rw [← he, ← HPI.out.1, ← HLI.out] at hc
                      rcases hc with hc | hc
                      · exact q1 hc
                      · exact q2 hc.1
                    · have := HIL.out.2.1; omega)
                  clear q1 q2
                  replace f_b := f_b.drew
                  replace f_u := f_u.drew
                  replace f_l := f_l.drew
                  replace f_b1 := f_b1.drew
                  replace f_b2 := f_b2.drew
                  replace f_u1 := f_u1.drew
                  replace f_l2 := f_l2.drew
                  replace r_m := r_m.drew
                  replace r_w := r_w.drew
                  have Bw1 := Bi0.drew
                  clear Bi0
                  refine wp_region_lint (.rd 0 (.rd 1 (.rd 2 (.rd 3 (.rd 4 (.rd 5 (.rd 6 (.rd 7 (.rd 8 (.rd 9 (.rd 10 (.rd 11 (.rd 12 (.rd 13 (.rd 14 (.rd 15 (.rd 16 (.rd 17 (.rd 18 (.rd 19 (.rd 20 (.rd 21 (.rd 22 (.rd 23 .done)))))))))))))))))))))))) (by kernel_rfl) (by kernel_rfl) (by decide) (by kernel_rfl) (fun d _ _ _ _ h => by cases d <;> exact h) ?_
                  refine lint_pure 129 _ _ (.slice ab 64 cb) rfl rfl rfl rfl rfl (fun wx hx => by unfold mkOp; go_simp; all_goals (with_reducible rfl)) ?_
                  simp only [Act.put, zA, zB, zC]
                  refine lint_conv 130 (.tmp 129) _ _ rfl rfl rfl rfl rfl f_b ?_
                  simp only [Act.put, zA, zB, zC]
                  refine lint_pure 131 _ _ (.slice au 64 cu) rfl rfl rfl rfl rfl (fun wx hx => by unfold mkOp; go_simp; all_goals (with_reducible rfl)) ?_
                  simp only [Act.put, zA, zB, zC]
                  refine lint_conv 132 (.tmp 131) _ _ rfl rfl rfl rfl rfl f_u ?_
                  simp only [Act.put, zA, zB, zC]
                  refine lint_pure 133 _ _ (.bool false) rfl rfl rfl rfl rfl (fun wx hx => exec_strE _ _ _ _ HQ133.out rfl rfl) ?_
                  simp only [Act.put, zA, zB, zC]
                  refine lint_pure 134 _ _ (.bool false) rfl rfl rfl rfl rfl (fun wx hx => by unfold mkOp; go_simp; all_goals (with_reducible rfl)) ?_
                  simp only [Act.put, zA, zB, zC]
                  refine lint_pure 135 _ _ (.slice ab 64 cb) rfl rfl rfl rfl rfl (fun wx hx => by unfold mkOp; go_simp; all_goals (with_reducible rfl)) ?_
                  simp only [Act.put, zA, zB, zC]
                  refine lint_pure 136 _ _ (b1) rfl rfl rfl rfl rfl (fun wx hx => HE.out.1 _ _ _ _ _ rfl rfl) ?_
                  simp only [Act.put, zA, zB, zC]
                  refine lint_conv 137 (.tmp 136) _ _ rfl rfl rfl rfl rfl f_b1 ?_
                  simp only [Act.put, zA, zB, zC]
                  refine lint_pure 138 _ _ (.slice au 64 cu) rfl rfl rfl rfl rfl (fun wx hx => by unfold mkOp; go_simp; all_goals (with_reducible rfl)) ?_
                  simp only [Act.put, zA, zB, zC]
                  refine lint_pure 139 _ _ (u1) rfl rfl rfl rfl rfl (fun wx hx => HE.out.2.2.1 _ _ _ _ _ rfl rfl) ?_
                  simp only [Act.put, zA, zB, zC]
                  refine lint_conv 140 (.tmp 139) _ _ rfl rfl rfl rfl rfl f_u1 ?_
                  simp only [Act.put, zA, zB, zC]
                  refine lint_pure 141 _ _ (.bool false) rfl rfl rfl rfl rfl (fun wx hx => exec_strE _ _ _ _ HQ141.out rfl rfl) ?_
                  simp only [Act.put, zA, zB, zC]
                  refine lint_pure 142 _ _ (.bool false) rfl rfl rfl rfl rfl (fun wx hx => by unfold mkOp; go_simp; all_goals (with_reducible rfl)) ?_
                  simp only [Act.put, zA, zB, zC]
                  refine lint_none 143 rfl rfl rfl ?_
                  simp only [Act.put, zA, zB, zC]
                  refine lint_none 144 rfl rfl rfl ?_
                  simp only [Act.put, zA, zB, zC]
                  refine lint_none 145 rfl rfl rfl ?_
                  simp only [Act.put, zA, zB, zC]
                  refine lint_none 146 rfl rfl rfl ?_
                  simp only [Act.put, zA, zB, zC]
                  refine lint_none 147 rfl rfl rfl ?_
                  simp only [Act.put, zA, zB, zC]
                  refine lint_none 148 rfl rfl rfl ?_
                  simp only [Act.put, zA, zB, zC]
                  refine lint_none 149 rfl rfl rfl ?_
                  simp only [Act.put, zA, zB, zC]
                  refine lint_pure 150 _ _ (.bool false) rfl rfl rfl rfl rfl (fun wx hx => by unfold mkOp; go_simp; all_goals (with_reducible rfl)) ?_
                  simp only [Act.put, zA, zB, zC]
                  refine lint_pure 151 _ _ (.bool false) rfl rfl rfl rfl rfl (fun wx hx => by unfold mkOp; go_simp; all_goals (with_reducible rfl)) ?_
                  simp only [Act.put, zA, zB, zC]
                  refine lint_pure 14 _ _ (.bool false) rfl rfl rfl rfl rfl (fun wx hx => by unfold mkOp; go_simp; all_goals (with_reducible rfl)) ?_
                  simp only [Act.put, zA, zB, zC]
                  refine lint_end ?_
                  go_wp2
                  go_roundw
                  case rel => exact ⟨i + 1, false, HIL.out.1, by rw [HI1.out], rfl, .inr ⟨rfl, HIL.out.2.2.1, HIL.out.2.2.2, HNE.out, by rw [HAT.out]; exact f_u⟩, f_b, r_m, r_w, Bw1⟩
                  case measure => (have := HI1.out; have := HIL.out.1; simp [intOf]; try omega)
        · obtain rfl : k = 8 := by omega
          have Bw6 := zbt HGS Bw5 Bk0
          clear hlt hk Bk0
          go_wp2_with (first
            | (have hgo := Bw6; clear hgo
               go_at_call 9
               refine (awake15_api HA.out _).mono ?_
               rintro e w10 ⟨rfl, kk⟩
               have Bw10 := Bw6.trans (kk.mono Bw6.size)
               clear Bw6 kk))
          go_ret
          exact ⟨rfl, Bw10⟩
theorem blockGood_api (w : World) (vl : Value) (L : List Sp) (hL : Sps w vl L) (vp : Value) (P : List Int) (hP : NumsK .i64 w vp P) : Calls Try.prog 4 #[vl, vp] w fun e w' => e = .returned (.bool true) ∧ Below w.heap.size w w' := by
  have hL' := hL
  have hP' := hP
  obtain ⟨al, cl, rfl, _⟩ := hL
  obtain ⟨ap, cp, rfl, _⟩ := hP
  by_cases h1 : (60 : Int) < (L.length : Int)
  · exact good_o1 A w _ _ _ _ _ _ h1
  by_cases h2 : (30 : Int) < (P.length : Int)
  · exact good_o2 A w _ _ _ _ _ _ h1 h2
  exact good_in A w _ _ L P hL' hP' (by omega) (by omega)
end
end Go.Proofs.Ytpilfjdhpahphaa

/- BlockAgain over a promised device. -/
namespace Go.Proofs.Ytpilfjdhpahphaa
open Go.RowKit Go.Deep
set_option linter.unusedSimpArgs false
set_option linter.unusedVariables false

theorem crG_again (S : DS) (L : Nat) (pk : Nat → Int) (L2 : Nat) (pk2 : Nat → Int) (k : Nat) (hk : k < S.n) : crG (crI S L pk S.n) L2 pk2 k = crG S L pk k := by
  have hp : pickS (crI S L pk S.n) L2 pk2 k = 0 := by
    unfold pickS
    rw [if_pos (.inl rfl)]
  have ha : atS (crI S L pk S.n) k 0 = crG S L pk k := by
    show (if k < S.n then crG S L pk k else List.replicate 64 0) = _
    rw [if_pos hk]
  rw [show crG (crI S L pk S.n) L2 pk2 k = atS (crI S L pk S.n) k 0 by unfold crG; rw [hp]; rfl, ha]
theorem crG_none (S : DS) (pk : Nat → Int) (k : Nat) : crG S 0 pk k = S.good k := by
  have hp : pickS S 0 pk k = 0 := by
    unfold pickS
    rw [if_pos (.inr rfl)]
  unfold crG
  rw [hp]
  rfl
section
variable {BkAt : (Nat → Prop) → (Nat → Prop) → World → Nat → DS → Prop} (A : BkApi BkAt)
include A
set_option maxHeartbeats 4000000 in
set_option maxRecDepth 20000 in
theorem again_o1 (w : World) (al : Option Addr) (nl cl : Nat) (ap : Option Addr) (np cp : Nat) (aq : Option Addr) (nq cq : Nat) (h1 : (60 : Int) < (nl : Int)) : Calls Try.prog 5 #[.slice al nl cl, .slice ap np cp, .slice aq nq cq] w fun e w' => e = .returned (.bool true) ∧ Below w.heap.size w w' := by
  have HA := Lib.hid A
  have Bw0 := Below.refl w.heap.size w
  clear A
  go_enter Try.func5, Try.ntmps5
  go_wp2_with (first
    | (have hgo := Bw0; clear hgo
       go_at_call 9
       refine (awake15_api HA.out _).mono ?_
       rintro e w1 ⟨rfl, kk⟩
       have Bw1 := Bw0.trans (kk.mono Bw0.size)
       clear Bw0 kk))
  go_ret
  exact ⟨rfl, Bw1⟩
set_option maxHeartbeats 4000000 in
set_option maxRecDepth 20000 in
theorem again_o2 (w : World) (al : Option Addr) (nl cl : Nat) (ap : Option Addr) (np cp : Nat) (aq : Option Addr) (nq cq : Nat) (h1 : ¬ (60 : Int) < (nl : Int)) (h2 : (30 : Int) < (np : Int)) : Calls Try.prog 5 #[.slice al nl cl, .slice ap np cp, .slice aq nq cq] w fun e w' => e = .returned (.bool true) ∧ Below w.heap.size w w' := by
  have HA := Lib.hid A
  have Bw0 := Below.refl w.heap.size w
  clear A
  go_enter Try.func5, Try.ntmps5
  go_wp2_with (first
    | (have hgo := Bw0; clear hgo
       go_at_call 9
       refine (awake15_api HA.out _).mono ?_
       rintro e w1 ⟨rfl, kk⟩
       have Bw1 := Bw0.trans (kk.mono Bw0.size)
       clear Bw0 kk))
  go_ret
  exact ⟨rfl, Bw1⟩
set_option maxHeartbeats 4000000 in
set_option maxRecDepth 20000 in
theorem again_o3 (w : World) (al : Option Addr) (nl cl : Nat) (ap : Option Addr) (np cp : Nat) (aq : Option Addr) (nq cq : Nat) (h1 : ¬ (60 : Int) < (nl : Int)) (h2 : ¬ (30 : Int) < (np : Int)) (h3 : (30 : Int) < (nq : Int)) : Calls Try.prog 5 #[.slice al nl cl, .slice ap np cp, .slice aq nq cq] w fun e w' => e = .returned (.bool true) ∧ Below w.heap.size w w' := by
  have HA := Lib.hid A
  have Bw0 := Below.refl w.heap.size w
  clear A
  go_enter Try.func5, Try.ntmps5
  go_wp2_with (first
    | (have hgo := Bw0; clear hgo
       go_at_call 9
       refine (awake15_api HA.out _).mono ?_
       rintro e w1 ⟨rfl, kk⟩
       have Bw1 := Bw0.trans (kk.mono Bw0.size)
       clear Bw0 kk))
  go_ret
  exact ⟨rfl, Bw1⟩
set_option maxHeartbeats 4000000 in
set_option maxRecDepth 20000 in
theorem again_in (w : World) (vl vp vq : Value) (L : List Sp) (P Q : List Int) (hL : Sps w vl L) (hP : NumsK .i64 w vp P) (hQ : NumsK .i64 w vq Q) (hl : L.length ≤ 60) (hp : P.length ≤ 30) (hq : Q.length ≤ 30) : Calls Try.prog 5 #[vl, vp, vq] w fun e w' => e = .returned (.bool true) ∧ Below w.heap.size w w' := by
  have HA := Lib.hid A
  have HSP := Lib.hid hL
  have HPV := Lib.hid hP.vs
  have HQV := Lib.hid hQ.vs
  have HOKL := Lib.hid hL.ok
  obtain ⟨al, cl, rfl, hlc, hcm, hlx, hly⟩ := hL
  obtain ⟨ap, cp, rfl, hpa, hpb, hpc, hpd, hpe⟩ := hP
  obtain ⟨aq, cq, rfl, hqa, hqb, hqc, hqd, hqe⟩ := hQ
  clear hlc hcm hlx hly hpa hpb hpc hpd hpe hqa hqb hqc hqd hqe
  generalize hnl : L.length = N at *
  generalize hnp : P.length = NP at *
  generalize hnq : Q.length = NQ at *
  have HNL := Lib.hid hnl
  have g2 : ¬ (60 : Int) < (N : Int) := by omega
  have g3 : ¬ (30 : Int) < (NP : Int) := by omega
  have g4 : ¬ (30 : Int) < (NQ : Int) := by omega
  have HBD := Lib.hid (And.intro hl (And.intro hp hq))
  have HOK0 := Lib.hid (newS_ok 8 (by decide) (by decide))
  have HGS : Hid (∀ wq : World, Below w.heap.size w wq → w.heap.size ≤ wq.heap.size) := Lib.hid fun wq h => h.size
  have Bw0 := Below.refl w.heap.size w
  clear A hl hp hq hnl hnp hnq
  go_enter Try.func5, Try.ntmps5
  go_wp2_with (first
    | (have hgo := Bw0; clear hgo
       go_at_call 10
       refine (HA.out.newYes _ 8 (by decide) (by decide)).mono ?_
       rintro e wn1 ⟨y, T, D, rfl, hb, hD, kk⟩
       have HB := Lib.hid hb
       have HD := Lib.hid hD
       have Bn1 := Bw0.trans (kk.mono Bw0.size)
       have BS := Lib.hid Bw0.size
       clear Bw0 kk hb hD)
    | (have hgo := Bn1; clear hgo
       go_at_call 11
       refine (devNew_yes T 8 _ (fun b hb => HA.out.lt _ _ _ _ _ HB.out b (HA.out.sub _ _ _ _ _ HB.out b hb)) (by decide) (by decide)).mono ?_
       rintro e wn2 ⟨m, g, wb, rfl, l1, l2, l3, hd, kk⟩
       obtain ⟨hT, hM⟩ := two_new HA.out HB.out (fun b hb => Nat.le_trans BS.out (HD.out b hb)) Bn1 l1 l2 l3 hd kk
       have HT0 := Lib.hid hT
       have HM0 := Lib.hid hM
       have Bn2 := Bn1.trans (kk.mono Bn1.size)
       clear Bn1 kk hd l1 l2 l3 hT hM HB HD BS))
  go_loopw [11] (fun iv wr => ∃ (i : Nat) (M T D : Nat → Prop), i ≤ N ∧ iv = .int .i64 (i : Int) ∧ Two BkAt M T D y m g wb wr (stNTo (newS 8) L i) ∧ (∀ b, M b → w.heap.size ≤ b) ∧ Below w.heap.size w wr) (fun iv _ => N - (intOf iv).toNat)
  case atStart => exact ⟨0, _, T, D, Nat.zero_le _, rfl, HT0.out, HM0.out, Bn2⟩
  case round =>
    clear Bn2 HT0 HM0 T D
    obtain ⟨i, M, T, D, hi, rfl, hT, hM, Bw0⟩ := hrel
    by_cases hlt : i < N
    · have hiI : 0 ≤ (i : Int) ∧ (i : Int) < (N : Int) := by omega
      have hil : i < L.length := by rw [HNL.out]; exact hlt
      obtain ⟨bb, off, cap', he, _, _, hbl, hit⟩ := HSP.out.open_cons (by rw [HNL.out]; omega)
      rw [HNL.out] at he
      cases he
      have HCX := Lib.hid ((hit i hil).cells _ Bw0)
      have hok := stNTo_ok HOK0.out L HOKL.out i (by rw [HNL.out]; exact Nat.le_of_lt hlt)
      have HXO := Lib.hid (HOKL.out L[i] (List.getElem_mem _))
      have HSU := Lib.hid (stNTo_succ (newS 8) L i hil)
      generalize L[i] = X at *
      have HT := Lib.hid hT
      have HM := Lib.hid hM
      have HOK := Lib.hid (hok.more (show 0 + i ≤ 1000 by have := HBD.out; omega))
      have HI := Lib.hid hlt
      obtain ⟨i1, hi1⟩ := nat_var (i + 1)
      have hwi : IntKind.i64.wrap ((i : Int) + 1) = (i1 : Int) := by rw [IntWalk.i64_in _ (by have := HBD.out; omega)]; omega
      have HI1 := Lib.hid hi1
      have M1 := Lib.hid hlt
      clear hi hlt hil hit hbl hi1 hT hM hok
      by_cases hk3 : X.k = 3
      · have hS3 := HSU.out
        rw [if_pos hk3] at hS3
        have HS3 := Lib.hid hS3
        have hc0 := HCX.out 0 (by decide)
        rw [show spF X 0 = .int .i64 3 by unfold spF; rw [if_pos rfl, hk3]] at hc0
        rw [Nat.add_zero] at hc0
        clear hk3 hS3 HCX
        go_wp2
        go_roundw
        case rel => exact ⟨i + 1, M, T, D, HI.out, by rw [HI1.out], by rw [HS3.out]; exact HT.out, HM.out, Bw0⟩
        case measure => (have := HI1.out; have := HI.out; simp [intOf]; try omega)
      · have hS3 := HSU.out
        rw [if_neg hk3] at hS3
        have HS3 := Lib.hid hS3
        have hk4 : (X.k == 3) = false := by simpa using hk3
        have hk5 : (X.k != 3) = true := by simpa using hk3
        have hc0 : World.cell? _ ⟨bb, off + i * 3, none⟩ = some (.int .i64 X.k) := HCX.out 0 (by decide)
        clear hk3 hS3
        go_wp2_with (first
          | (have hgo := M1; clear hgo
             refine wpList_load_cellsW 34 (.tmp 67) rfl rfl 3 arrSp HCX.out rfl ?_
             clear M1)
          | (have hgo := Bw0; clear hgo
             go_at_call 12
             refine (does_any HA.out M T D y m g wb _ _ 1000 X HT.out HOK.out (by decide) HXO.out).mono ?_
             rintro e w4 ⟨rfl, hn⟩
             rw [← HS3.out] at hn
             obtain ⟨M4, T4, D4, hT4, hM4, Bw4⟩ := TwoNew.gone HA.out HT.out HM.out Bw0 hn
             have HT4 := Lib.hid hT4
             have HM4 := Lib.hid hM4
             clear Bw0 hn hT4 hM4 hc0))
        go_roundw
        case rel => exact ⟨i + 1, M4, T4, D4, HI.out, by rw [HI1.out], HT4.out, HM4.out, Bw4⟩
        case measure => (have := HI1.out; have := HI.out; simp [intOf]; try omega)
    · obtain rfl : i = N := by omega
      have hiI : ¬ (i : Int) < (i : Int) := by omega
      obtain ⟨S, hS⟩ : ∃ S, S = stNTo (newS 8) L i := ⟨_, rfl⟩
      have hok : okD S (0 + i) := by rw [hS]; exact stNTo_ok HOK0.out L HOKL.out i (by rw [HNL.out]; exact Nat.le_refl _)
      have hn8 : S.n = 8 := by rw [hS]; exact stNTo_n _ L i (by rw [HNL.out]; exact Nat.le_refl _)
      rw [← hS] at hT
      have HT := Lib.hid hT
      have HOK := Lib.hid (hok.more (show 0 + i ≤ 100 by have := HBD.out; omega))
      have HN8 := Lib.hid hn8
      clear hi hlt hT hM hS hok hn8
      go_wp2_with (first
        | (have hgo := Bw0; clear hgo
           go_at_call 13
           refine (HA.out.crash T D _ y S 100 NP _ _ HT.out.bk HOK.out (by decide) (HPV.out.1.bel Bw0) (by have := HBD.out; omega) HPV.out.2).mono ?_
           rintro e w5 ⟨y5, T5, D5, rfl, hb5, kk, t5, d5⟩
           have HTa := Lib.hid (Two.bel HA.out HT.out kk)
           have HBa := Lib.hid hb5
           have Bw5 := zbt HGS Bw0 kk
           clear Bw0 kk hb5 t5 d5 HT)
        | (have hgo := Bw5; clear hgo
           go_at_call 13
           refine (HA.out.crash T5 D5 _ y5 (crI S NP (fun i => P.getD i 0) S.n) 0 NQ _ _ HBa.out (crI_ok HOK.out NP _) (by decide) (HQV.out.1.bel Bw5) (by have := HBD.out; omega) HQV.out.2).mono ?_
           rintro e w6 ⟨y6, T6, D6, rfl, hb6, kk, t6, d6⟩
           have HTb := Lib.hid (Two.bel HA.out HTa.out kk)
           have HBa2 := Lib.hid (HA.out.stay _ _ (fun _ => False) _ _ _ _ HBa.out (Sam.of_below kk) (fun _ h => h.elim))
           have HBb := Lib.hid hb6
           have Bw6 := zbt HGS Bw5 kk
           clear Bw5 kk hb6 t6 d6 HTa HBa)
        | (have hgo := Bw6; clear hgo
           go_at_call 13
           refine (HA.out.crash T D _ y S 100 0 (fun _ => 0) _ HTb.out.bk HOK.out (by decide) (vs_nil _) (Nat.zero_le _) (fun i h => absurd h (Nat.not_lt_zero _))).mono ?_
           rintro e w7 ⟨y7, T7, D7, rfl, hb7, kk, t7, d7⟩
           have HTc := Lib.hid (Two.bel HA.out HTb.out kk)
           have HBa3 := Lib.hid (HA.out.stay _ _ (fun _ => False) _ _ _ _ HBa2.out (Sam.of_below kk) (fun _ h => h.elim))
           have HBb2 := Lib.hid (HA.out.stay _ _ (fun _ => False) _ _ _ _ HBb.out (Sam.of_below kk) (fun _ h => h.elim))
           have HBc := Lib.hid hb7
           have Bw7 := zbt HGS Bw6 kk
           clear Bw6 kk hb7 t7 d7 HTb HBa2 HBb))
      obtain ⟨gc, wc, gf, wf, r_m0, hr0⟩ := HTc.out.dv
      have HR0 := Lib.hid hr0
      rw [HN8.out] at r_m0
      have RM0 := Lib.hid r_m0
      have HC := Lib.hid (crG_again S NP (fun i => P.getD i 0) NQ (fun i => Q.getD i 0))
      have HG := Lib.hid (crG_none S (fun _ => 0))
      go_loopw [15] (fun kv wr => ∃ k : Nat, k ≤ 8 ∧ kv = .int .i64 (k : Int) ∧ Below w7.heap.size w7 wr) (fun kv _ => 8 - (intOf kv).toNat)
      case atStart => exact ⟨0, Nat.zero_le _, rfl, Below.refl _ _⟩
      case round =>
        clear r_m0 hr0
        obtain ⟨k, hk, rfl, Bk0⟩ := hrel
        have HG7 : Hid (∀ wq : World, Below w7.heap.size w7 wq → w7.heap.size ≤ wq.heap.size) := Lib.hid fun wq h => h.size
        by_cases hlt : k < 8
        · have hkI : 0 ≤ (k : Int) ∧ (k : Int) < 8 := by omega
          have HKN := Lib.hid hlt
          have HK : Hid (k < S.n) := Lib.hid (by rw [HN8.out]; exact hlt)
          have hgl : 8 ≤ gc := by rw [← HN8.out]; exact HR0.out.gl
          have HGL := Lib.hid hgl
          have r_m := zrb RM0.out Bk0
          have r_g := zrb HR0.out.rg Bk0
          have f_o := ((HR0.out.bg k HK.out).step (Sam.of_below Bk0)).bs
          obtain ⟨GK, hGK⟩ : ∃ G, G = gf k := ⟨_, rfl⟩
          have HGK := Lib.hid hGK
          rw [← hGK] at f_o
          obtain ⟨k1, hk1⟩ := nat_var (k + 1)
          have e5 : IntKind.i64.wrap ((k : Int) + 1) = (k1 : Int) := by rw [IntWalk.i64_in _ (by omega)]; omega
          have HK1 := Lib.hid hk1
          clear hk hlt hk1 hgl hGK
          go_wp2_with (first
            | (have hgo := Bk0; clear hgo
               go_at_call 16
               refine (read_to HA.out T5 D5 _ y5 (crI S NP (fun i => P.getD i 0) S.n) 0 k (HA.out.stay _ _ (fun _ => False) _ _ _ _ HBa3.out (Sam.of_below Bk0) (fun _ h => h.elim)) (crI_ok HOK.out NP _) (by decide) HK.out).mono ?_
               rintro e wr1 ⟨v_1, rfl, f_1, kk⟩
               rw [crI_now _ _ _ _ HK.out] at f_1
               replace f_o := zfb f_o kk
               replace r_m := zrb r_m kk
               replace r_g := zrb r_g kk
               have Bk1 := zbt HG7 Bk0 kk
               clear Bk0 kk)
            | (have hgo := Bk1; clear hgo
               go_at_call 16
               refine (read_to HA.out T6 D6 _ y6 (crI (crI S NP (fun i => P.getD i 0) S.n) NQ (fun i => Q.getD i 0) (crI S NP (fun i => P.getD i 0) S.n).n) 0 k (HA.out.stay _ _ (fun _ => False) _ _ _ _ HBb2.out (Sam.of_below Bk1) (fun _ h => h.elim)) (crI_ok (crI_ok HOK.out NP _) NQ _) (by decide) HK.out).mono ?_
               rintro e wr2 ⟨v_2, rfl, f_2, kk⟩
               rw [crI_now (crI S NP (fun i => P.getD i 0) S.n) NQ _ k HK.out, HC.out k HK.out] at f_2
               replace f_1 := zfb f_1 kk
               replace f_o := zfb f_o kk
               replace r_m := zrb r_m kk
               replace r_g := zrb r_g kk
               have Bk2 := zbt HG7 Bk1 kk
               clear Bk1 kk)
            | (have hgo := Bk2; clear hgo
               go_at_call 16
               refine (read_to HA.out T7 D7 _ y7 (crI S 0 (fun _ => 0) S.n) 0 k (HA.out.stay _ _ (fun _ => False) _ _ _ _ HBc.out (Sam.of_below Bk2) (fun _ h => h.elim)) (crI_ok HOK.out 0 _) (by decide) HK.out).mono ?_
               rintro e wr3 ⟨v_3, rfl, f_3, kk⟩
               rw [crI_now _ _ _ _ HK.out, HG.out k] at f_3
               replace f_1 := zfb f_1 kk
               replace f_2 := zfb f_2 kk
               replace f_o := zfb f_o kk
               replace r_m := zrb r_m kk
               replace r_g := zrb r_g kk
               have Bk3 := zbt HG7 Bk2 kk
               clear Bk2 kk))
          replace f_1 := f_1.drew
          replace f_2 := f_2.drew
          replace f_3 := f_3.drew
          replace f_o := f_o.drew
          replace r_m := r_m.drew
          replace r_g := r_g.drew
          have Bw4 := Bk3.drew
          clear Bk3
          refine wp_region_lint (.rd 0 (.rd 1 (.rd 2 (.rd 3 (.rd 4 (.rd 5 (.rd 6 (.rd 7 (.rd 8 (.rd 9 (.rd 10 (.rd 11 (.rd 12 (.rd 13 (.rd 14 (.rd 15 (.rd 16 (.rd 17 (.rd 18 (.rd 19 (.rd 20 (.rd 21 .done)))))))))))))))))))))) (by kernel_rfl) (by kernel_rfl) (by decide) (by kernel_rfl) (fun d _ _ _ _ h => by cases d <;> exact h) ?_
          refine lint_pure 110 _ _ (.int .i64 0) rfl rfl rfl rfl rfl (fun wx hx => by unfold mkOp; go_simp; all_goals (with_reducible rfl)) ?_
          simp only [Act.put, zA, zB, zC]
          refine lint_pure 111 _ _ (.bool false) rfl rfl rfl rfl rfl (fun wx hx => by unfold mkOp; go_simp; all_goals (with_reducible rfl)) ?_
          simp only [Act.put, zA, zB, zC]
          refine lint_pure 112 _ _ (.bool false) rfl rfl rfl rfl rfl (fun wx hx => by unfold mkOp; go_simp; all_goals (with_reducible rfl)) ?_
          simp only [Act.put, zA, zB, zC]
          refine lint_pure 113 _ _ (v_1) rfl rfl rfl rfl rfl (fun wx hx => by unfold mkOp; go_simp; all_goals (with_reducible rfl)) ?_
          simp only [Act.put, zA, zB, zC]
          refine lint_conv 114 (.tmp 113) _ _ rfl rfl rfl rfl rfl f_1 ?_
          simp only [Act.put, zA, zB, zC]
          refine lint_pure 115 _ _ (v_2) rfl rfl rfl rfl rfl (fun wx hx => by unfold mkOp; go_simp; all_goals (with_reducible rfl)) ?_
          simp only [Act.put, zA, zB, zC]
          refine lint_conv 116 (.tmp 115) _ _ rfl rfl rfl rfl rfl f_2 ?_
          simp only [Act.put, zA, zB, zC]
          refine lint_pure 117 _ _ (.bool false) rfl rfl rfl rfl rfl (fun wx hx => exec_strN _ _ _ _ rfl rfl) ?_
          simp only [Act.put, zA, zB, zC]
          refine lint_pure 118 _ _ (.bool false) rfl rfl rfl rfl rfl (fun wx hx => by unfold mkOp; go_simp; all_goals (with_reducible rfl)) ?_
          simp only [Act.put, zA, zB, zC]
          refine lint_pure 119 _ _ (.bool false) rfl rfl rfl rfl rfl (fun wx hx => by unfold mkOp; go_simp; all_goals (with_reducible rfl)) ?_
          simp only [Act.put, zA, zB, zC]
          refine lint_pure 120 _ _ (v_3) rfl rfl rfl rfl rfl (fun wx hx => by unfold mkOp; go_simp; all_goals (with_reducible rfl)) ?_
          simp only [Act.put, zA, zB, zC]
          refine lint_conv 121 (.tmp 120) _ _ rfl rfl rfl rfl rfl f_3 ?_
          simp only [Act.put, zA, zB, zC]
          refine lint_pure 122 _ _ (.pointer (some ⟨m, 0, none⟩)) rfl rfl rfl rfl rfl (fun wx hx => by unfold mkOp; go_simp; all_goals (with_reducible rfl)) ?_
          simp only [Act.put, zA, zB, zC]
          refine lint_pure 123 _ _ (.pointer (some ⟨m, 0, none⟩)) rfl rfl rfl rfl rfl (fun wx hx => by unfold mkOp; go_simp; all_goals (with_reducible rfl)) ?_
          simp only [Act.put, zA, zB, zC]
          refine lint_pure 124 _ _ (.pointer (some ⟨m, 0, none⟩)) rfl rfl rfl rfl rfl (fun wx hx => by unfold mkOp; go_simp; all_goals (with_reducible rfl)) ?_
          simp only [Act.put, zA, zB, zC]
          refine lint_pure 125 _ _ (.slice (some ⟨g, 0, none⟩) 8 gc) rfl rfl rfl rfl rfl (fun wx hx => exec_load_cell _ _ _ _ rfl (by kernel_rfl) ((zrb r_m hx).cell (by omega))) ?_
          simp only [Act.put, zA, zB, zC]
          refine lint_pure 126 _ _ (.int .i64 (k : Int)) rfl rfl rfl rfl rfl (fun wx hx => by unfold mkOp; go_simp; all_goals (with_reducible rfl)) ?_
          simp only [Act.put, zA, zB, zC]
          refine lint_pure 127 _ _ (.pointer (some ⟨g, k, none⟩)) rfl rfl rfl rfl rfl (fun wx hx => by unfold mkOp; go_simp; all_goals (with_reducible rfl)) ?_
          simp only [Act.put, zA, zB, zC]
          refine lint_pure 128 _ _ (GK) rfl rfl rfl rfl rfl (fun wx hx => by rw [HGK.out]; exact exec_load_cell _ _ _ _ rfl (by kernel_rfl) ((zrb r_g hx).cell (by have := HGL.out; have := HKN.out; omega))) ?_
          simp only [Act.put, zA, zB, zC]
          refine lint_conv 129 (.tmp 128) _ _ rfl rfl rfl rfl rfl f_o ?_
          simp only [Act.put, zA, zB, zC]
          refine lint_pure 130 _ _ (.bool false) rfl rfl rfl rfl rfl (fun wx hx => exec_strN _ _ _ _ rfl rfl) ?_
          simp only [Act.put, zA, zB, zC]
          refine lint_pure 131 _ _ (.bool false) rfl rfl rfl rfl rfl (fun wx hx => by unfold mkOp; go_simp; all_goals (with_reducible rfl)) ?_
          simp only [Act.put, zA, zB, zC]
          refine lint_end ?_
          go_wp2
          go_roundw
          case rel => exact ⟨k + 1, HKN.out, by rw [HK1.out], Bw4⟩
          case measure => (have := HK1.out; have := HKN.out; simp [intOf]; try omega)
        · obtain rfl : k = 8 := by omega
          clear hlt hk
          go_wp2_with (first
            | (have hgo := Bk0; clear hgo
               go_at_call 14
               refine (shows_any HA.out M T D y m g wb _ S 100 (Two.bel HA.out HTc.out Bk0) HOK.out (by decide)).mono ?_
               rintro e w9 ⟨rfl, kk⟩
               have Bw9 := Bw7.trans ((Bk0.trans (kk.mono Bk0.size)).mono Bw7.size)
               clear Bk0 kk)
            | (have hgo := Bw9; clear hgo
               go_at_call 9
               refine (awake15_api HA.out _).mono ?_
               rintro e w10 ⟨rfl, kk⟩
               have Bw10 := Bw9.trans (kk.mono Bw9.size)
               clear Bw9 kk))
          go_ret
          exact ⟨rfl, Bw10⟩
theorem blockAgain_api (w : World) (vl : Value) (L : List Sp) (hL : Sps w vl L) (vp : Value) (P : List Int) (hP : NumsK .i64 w vp P) (vq : Value) (Q : List Int) (hQ : NumsK .i64 w vq Q) : Calls Try.prog 5 #[vl, vp, vq] w fun e w' => e = .returned (.bool true) ∧ Below w.heap.size w w' := by
  have hL' := hL
  have hP' := hP
  have hQ' := hQ
  obtain ⟨al, cl, rfl, _⟩ := hL
  obtain ⟨ap, cp, rfl, _⟩ := hP
  obtain ⟨aq, cq, rfl, _⟩ := hQ
  by_cases h1 : (60 : Int) < (L.length : Int)
  · exact again_o1 A w _ _ _ _ _ _ _ _ _ h1
  by_cases h2 : (30 : Int) < (P.length : Int)
  · exact again_o2 A w _ _ _ _ _ _ _ _ _ h1 h2
  by_cases h3 : (30 : Int) < (Q.length : Int)
  · exact again_o3 A w _ _ _ _ _ _ _ _ _ h1 h2 h3
  exact again_in A w _ _ _ L P Q hL' hP' hQ' (by omega) (by omega) (by omega)
end
end Go.Proofs.Ytpilfjdhpahphaa

/- BlockCopies over a promised device. -/
namespace Go.Proofs.Ytpilfjdhpahphaa
open Go.RowKit Go.Deep
set_option linter.unusedSimpArgs false
set_option linter.unusedVariables false

section
variable {BkAt : (Nat → Prop) → (Nat → Prop) → World → Nat → DS → Prop} (A : BkApi BkAt)
include A
set_option maxHeartbeats 4000000 in
set_option maxRecDepth 20000 in
theorem copies_o1 (w : World) (al : Option Addr) (nl cl : Nat) (ap : Option Addr) (np cp : Nat) (k0 : Int) (h1 : (40 : Int) < (nl : Int)) : Calls Try.prog 6 #[.slice al nl cl, .slice ap np cp, .int .i64 k0] w fun e w' => e = .returned (.bool true) ∧ Below w.heap.size w w' := by
  have HA := Lib.hid A
  have Bw0 := Below.refl w.heap.size w
  clear A
  go_enter Try.func6, Try.ntmps6
  go_wp2_with (first
    | (have hgo := Bw0; clear hgo
       go_at_call 9
       refine (awake15_api HA.out _).mono ?_
       rintro e w1 ⟨rfl, kk⟩
       have Bw1 := Bw0.trans (kk.mono Bw0.size)
       clear Bw0 kk))
  go_ret
  exact ⟨rfl, Bw1⟩
set_option maxHeartbeats 4000000 in
set_option maxRecDepth 20000 in
theorem copies_o2 (w : World) (al : Option Addr) (nl cl : Nat) (ap : Option Addr) (np cp : Nat) (k0 : Int) (h1 : ¬ (40 : Int) < (nl : Int)) (h2 : (40 : Int) < (np : Int)) : Calls Try.prog 6 #[.slice al nl cl, .slice ap np cp, .int .i64 k0] w fun e w' => e = .returned (.bool true) ∧ Below w.heap.size w w' := by
  have HA := Lib.hid A
  have Bw0 := Below.refl w.heap.size w
  clear A
  go_enter Try.func6, Try.ntmps6
  go_wp2_with (first
    | (have hgo := Bw0; clear hgo
       go_at_call 9
       refine (awake15_api HA.out _).mono ?_
       rintro e w1 ⟨rfl, kk⟩
       have Bw1 := Bw0.trans (kk.mono Bw0.size)
       clear Bw0 kk))
  go_ret
  exact ⟨rfl, Bw1⟩
set_option maxHeartbeats 4000000 in
set_option maxRecDepth 20000 in
theorem copies_in (w : World) (vl vp : Value) (k0 : Int) (L P : List Sp) (hL : Sps w vl L) (hP : Sps w vp P) (hl : L.length ≤ 40) (hp : P.length ≤ 40) : Calls Try.prog 6 #[vl, vp, .int .i64 k0] w fun e w' => e = .returned (.bool true) ∧ Below w.heap.size w w' := by
  have HA := Lib.hid A
  have HSP := Lib.hid hL
  have HSP2 := Lib.hid hP
  have HOKL := Lib.hid hL.ok
  have HOKP := Lib.hid hP.ok
  obtain ⟨al, cl, rfl, hlc, hcm, hlx, hly⟩ := hL
  obtain ⟨ap, cp, rfl, hpa, hpb, hpc, hpd⟩ := hP
  clear hlc hcm hlx hly hpa hpb hpc hpd
  generalize hnl : L.length = N at *
  generalize hnp : P.length = NP at *
  have HNL := Lib.hid hnl
  have HNP := Lib.hid hnp
  have g2 : ¬ (40 : Int) < (N : Int) := by omega
  have g3 : ¬ (40 : Int) < (NP : Int) := by omega
  have HBD := Lib.hid (And.intro hl hp)
  have HOK0 := Lib.hid (newS_ok 6 (by decide) (by decide))
  have HGS : Hid (∀ wq : World, Below w.heap.size w wq → w.heap.size ≤ wq.heap.size) := Lib.hid fun wq h => h.size
  have Bw0 := Below.refl w.heap.size w
  clear A hl hp hnl hnp
  go_enter Try.func6, Try.ntmps6
  go_wp2_with (first
    | (have hgo := Bw0; clear hgo
       go_at_call 10
       refine (HA.out.newYes _ 6 (by decide) (by decide)).mono ?_
       rintro e wn1 ⟨y, T, D, rfl, hb, hD, kk⟩
       have HB := Lib.hid hb
       have HD := Lib.hid hD
       have Bn1 := Bw0.trans (kk.mono Bw0.size)
       have BS := Lib.hid Bw0.size
       clear Bw0 kk hb hD)
    | (have hgo := Bn1; clear hgo
       go_at_call 11
       refine (devNew_yes T 6 _ (fun b hb => HA.out.lt _ _ _ _ _ HB.out b (HA.out.sub _ _ _ _ _ HB.out b hb)) (by decide) (by decide)).mono ?_
       rintro e wn2 ⟨m, g, wb, rfl, l1, l2, l3, hd, kk⟩
       obtain ⟨hT, hM⟩ := two_new HA.out HB.out (fun b hb => Nat.le_trans BS.out (HD.out b hb)) Bn1 l1 l2 l3 hd kk
       have HT0 := Lib.hid hT
       have HM0 := Lib.hid hM
       have Bn2 := Bn1.trans (kk.mono Bn1.size)
       clear Bn1 kk hd l1 l2 l3 hT hM HB HD BS))
  go_loopw [11] (fun iv wr => ∃ (i : Nat) (M T D : Nat → Prop), i ≤ N ∧ iv = .int .i64 (i : Int) ∧ Two BkAt M T D y m g wb wr (stTo (newS 6) L i) ∧ (∀ b, M b → w.heap.size ≤ b) ∧ Below w.heap.size w wr) (fun iv _ => N - (intOf iv).toNat)
  case atStart => exact ⟨0, _, T, D, Nat.zero_le _, rfl, HT0.out, HM0.out, Bn2⟩
  case round =>
    clear Bn2 HT0 HM0 T D
    obtain ⟨i, M, T, D, hi, rfl, hT, hM, Bw0⟩ := hrel
    by_cases hlt : i < N
    · have hiI : 0 ≤ (i : Int) ∧ (i : Int) < (N : Int) := by omega
      have hil : i < L.length := by rw [HNL.out]; exact hlt
      obtain ⟨bb, off, cap', he, _, _, hbl, hit⟩ := HSP.out.open_cons (by rw [HNL.out]; omega)
      rw [HNL.out] at he
      cases he
      have HCX := Lib.hid ((hit i hil).cells _ Bw0)
      have hok := stTo_ok HOK0.out L HOKL.out i (by rw [HNL.out]; exact Nat.le_of_lt hlt)
      have HXO := Lib.hid (HOKL.out L[i] (List.getElem_mem _))
      have HSU := Lib.hid (stTo_succ (newS 6) L i hil)
      generalize L[i] = X at *
      have HT := Lib.hid hT
      have HM := Lib.hid hM
      have HOK := Lib.hid (hok.more (show 0 + i ≤ 1000 by have := HBD.out; omega))
      have HI := Lib.hid hlt
      obtain ⟨i1, hi1⟩ := nat_var (i + 1)
      have hwi : IntKind.i64.wrap ((i : Int) + 1) = (i1 : Int) := by rw [IntWalk.i64_in _ (by have := HBD.out; omega)]; omega
      have HI1 := Lib.hid hi1
      have M1 := Lib.hid hlt
      clear hi hlt hil hit hbl hi1 hT hM hok
      go_wp2_with (first
        | (have hgo := M1; clear hgo
           refine wpList_load_cellsW 34 (.tmp 51) rfl rfl 3 arrSp HCX.out rfl ?_
           clear M1)
        | (have hgo := Bw0; clear hgo
           go_at_call 12
           refine (does_any HA.out M T D y m g wb _ _ 1000 X HT.out HOK.out (by decide) HXO.out).mono ?_
           rintro e w4 ⟨rfl, hn⟩
           rw [← HSU.out] at hn
           obtain ⟨M4, T4, D4, hT4, hM4, Bw4⟩ := TwoNew.gone HA.out HT.out HM.out Bw0 hn
           have HT4 := Lib.hid hT4
           have HM4 := Lib.hid hM4
           clear Bw0 hn hT4 hM4))
      go_roundw
      case rel => exact ⟨i + 1, M4, T4, D4, HI.out, by rw [HI1.out], HT4.out, HM4.out, Bw4⟩
      case measure => (have := HI1.out; have := HI.out; simp [intOf]; try omega)
    · obtain rfl : i = N := by omega
      have hiI : ¬ (i : Int) < (i : Int) := by omega
      obtain ⟨S, hS⟩ : ∃ S, S = stTo (newS 6) L i := ⟨_, rfl⟩
      have hok : okD S (0 + i) := by rw [hS]; exact stTo_ok HOK0.out L HOKL.out i (by rw [HNL.out]; exact Nat.le_refl _)
      have hn6 : S.n = 6 := by rw [hS]; exact stTo_n _ L i (by rw [HNL.out]; exact Nat.le_refl _)
      rw [← hS] at hT
      have HT := Lib.hid hT
      have HMM := Lib.hid hM
      have HOK := Lib.hid (hok.more (show 0 + i ≤ 100 by have := HBD.out; omega))
      clear hi hlt hT hM hS hok hn6
      go_wp2_with (first
        | (have hgo := Bw0; clear hgo
           go_at_call 17
           refine (HA.out.copy T D _ y S 100 HT.out.bk HOK.out (by decide)).mono ?_
           rintro e w5 ⟨y5, T5, D5, rfl, hb5, kk, t5, d5⟩
           obtain ⟨hd5, hl5⟩ := made_dev HA.out HT.out hb5 kk t5
           have HB5 := Lib.hid hb5
           have HD5 := Lib.hid hd5
           have HT5N := Lib.hid t5
           have HK5 := Lib.hid kk
           have BW := Lib.hid Bw0.size
           have Bw5 := zbt HGS Bw0 kk
           clear Bw0 kk hb5 hd5 hl5 t5 d5)
        | (have hgo := Bw5; clear hgo
           go_at_call 18
           refine (devCopy_any _ m g wb S _ HD5.out (Nat.lt_of_lt_of_le (Nat.zero_lt_one) HOK.out.n1) HOK.out.n).mono ?_
           rintro e w7 ⟨m2, g2, wb2, rfl, l1, l2, l3, hd7, kk⟩
           obtain ⟨h4, hm4⟩ := four_new HA.out HT.out HMM.out BW.out HB5.out HK5.out HT5N.out l1 l2 l3 hd7 kk
           have H4 := Lib.hid h4
           have HM4 := Lib.hid hm4
           have Bw7 := zbt HGS Bw5 kk
           clear Bw5 kk l1 l2 l3 hd7 h4 hm4 HB5 HD5 HT5N HK5))
      obtain ⟨BB, H4, HM4⟩ := four_base H4 HM4


      go_loopw [14] (fun iv wr => ∃ (j : Nat) (M3 T3 D3 : Nat → Prop), j ≤ NP ∧ iv = .int .i64 (j : Int) ∧ Four BkAt M3 T D T3 D3 y m g wb y5 m2 g2 wb2 (BB) wr S (stTo S P j) ∧ (∀ b, M3 b → w.heap.size ≤ b) ∧ Below w.heap.size w wr) (fun iv _ => NP - (intOf iv).toNat)
      case atStart => exact ⟨0, _, T5, D5, Nat.zero_le _, rfl, H4.out, HM4.out, Bw7⟩
      case round =>
        clear Bw7 H4 HM4
        obtain ⟨j, M3, T3, D3, hj, rfl, h4, hM, Bw0⟩ := hrel
        by_cases hlt : j < NP
        · have hjI : 0 ≤ (j : Int) ∧ (j : Int) < (NP : Int) := by omega
          have hjl : j < P.length := by rw [HNP.out]; exact hlt
          obtain ⟨bb, off, cap', he, _, _, hbl, hit⟩ := HSP2.out.open_cons (by rw [HNP.out]; omega)
          rw [HNP.out] at he
          cases he
          have HCX := Lib.hid ((hit j hjl).cells _ Bw0)
          have hok := stTo_ok HOK.out P HOKP.out j (by rw [HNP.out]; exact Nat.le_of_lt hlt)
          have HXO := Lib.hid (HOKP.out P[j] (List.getElem_mem _))
          have HSU := Lib.hid (stTo_succ S P j hjl)
          generalize P[j] = X at *
          have H4 := Lib.hid h4
          have HM := Lib.hid hM
          have HOKX := Lib.hid (hok.more (show 100 + j ≤ 1000 by have := HBD.out; omega))
          have HI := Lib.hid hlt
          obtain ⟨j1, hj1⟩ := nat_var (j + 1)
          have hwj : IntKind.i64.wrap ((j : Int) + 1) = (j1 : Int) := by rw [IntWalk.i64_in _ (by have := HBD.out; omega)]; omega
          have HJ1 := Lib.hid hj1
          have M1 := Lib.hid hlt
          clear hj hlt hjl hit hbl hj1 h4 hM hok
          go_wp2_with (first
            | (have hgo := M1; clear hgo
               refine wpList_load_cellsW 34 (.tmp 71) rfl rfl 3 arrSp HCX.out rfl ?_
               clear M1)
            | (have hgo := Bw0; clear hgo
               go_at_call 12
               refine (does_any HA.out M3 T3 D3 y5 m2 g2 wb2 _ _ 1000 X H4.out.two HOKX.out (by decide) HXO.out).mono ?_
               rintro e w4 ⟨rfl, hn⟩
               rw [← HSU.out] at hn
               obtain ⟨M4, T4, D4, hT4, hM4, Bw4⟩ := Four.go HA.out H4.out HM.out Bw0 hn
               have HT4 := Lib.hid hT4
               have HM4 := Lib.hid hM4
               clear Bw0 hn hT4 hM4))
          go_roundw
          case rel => exact ⟨j + 1, M4, T4, D4, HI.out, by rw [HJ1.out], HT4.out, HM4.out, Bw4⟩
          case measure => (have := HJ1.out; have := HI.out; simp [intOf]; try omega)
        · obtain rfl : j = NP := by omega
          have hjI : ¬ (j : Int) < (j : Int) := by omega
          have HOK2 := Lib.hid ((stTo_ok HOK.out P HOKP.out j (by rw [HNP.out]; exact Nat.le_refl _)).more (show 100 + j ≤ 1000 by have := HBD.out; omega))
          have H4 := Lib.hid h4
          generalize stTo S P j = S2 at *
          clear hj hlt h4 hM
          go_wp2_with (first
            | (have hgo := Bw0; clear hgo
               go_at_call 16
               refine (HA.out.readN _ k0).mono ?_
               rintro e w5 ⟨v5, rfl, kk⟩
               have HO5 := Lib.hid (Two.bel HA.out H4.out.one kk)
               have HT5 := Lib.hid (Two.bel HA.out H4.out.two kk)
               have Bw5 := zbt HGS Bw0 kk
               clear Bw0 kk H4)
            | (have hgo := Bw5; clear hgo
               go_at_call 14
               refine (shows_any HA.out M3 T D y m g wb _ S 100 HO5.out HOK.out (by decide)).mono ?_
               rintro e w6 ⟨rfl, kk⟩
               have HT6 := Lib.hid (Two.bel HA.out HT5.out kk)
               have Bw6 := zbt HGS Bw5 kk
               clear Bw5 kk HO5 HT5)
            | (have hgo := Bw6; clear hgo
               go_at_call 14
               refine (shows_any HA.out M3 T3 D3 y5 m2 g2 wb2 _ S2 1000 HT6.out HOK2.out (by decide)).mono ?_
               rintro e w8 ⟨rfl, kk⟩
               have Bw8 := zbt HGS Bw6 kk
               clear Bw6 kk HT6)
            | (have hgo := Bw8; clear hgo
               go_at_call 19
               refine (HA.out.writeN _ k0).mono ?_
               rintro e w9 ⟨rfl, kk⟩
               have Bw9 := zbt HGS Bw8 kk
               clear Bw8 kk)
            | (have hgo := Bw9; clear hgo
               go_at_call 20
               refine (HA.out.flushN _).mono ?_
               rintro e w10 ⟨rfl, kk⟩
               have Bw10 := zbt HGS Bw9 kk
               clear Bw9 kk)
            | (have hgo := Bw10; clear hgo
               go_at_call 21
               refine (HA.out.offN _).mono ?_
               rintro e w11 ⟨rfl, kk⟩
               have Bw11 := zbt HGS Bw10 kk
               clear Bw10 kk)
            | (have hgo := Bw11; clear hgo
               go_at_call 22
               refine (HA.out.lenN _).mono ?_
               rintro e w12 ⟨rfl, kk⟩
               have Bw12 := zbt HGS Bw11 kk
               clear Bw11 kk)
            | (have hgo := Bw12; clear hgo
               refine wints1g rfl k0 (.tmp 115) rfl rfl ?_
               intro v_p w13 f_p kk
               have Bw13 := zbt HGS Bw12 kk
               clear Bw12 kk)
            | (have hgo := Bw13; clear hgo
               go_at_call 13
               refine (HA.out.crashN _ k0 v_p f_p).mono ?_
               rintro e w14 ⟨rfl, kk⟩
               have Bw14 := zbt HGS Bw13 kk
               clear Bw13 kk f_p)
            | (have hgo := Bw14; clear hgo
               go_at_call 17
               refine (HA.out.copyN _).mono ?_
               rintro e w15 ⟨rfl, kk⟩
               have Bw15 := zbt HGS Bw14 kk
               clear Bw14 kk)
            | (have hgo := Bw15; clear hgo
               go_at_call 9
               refine (awake15_api HA.out _).mono ?_
               rintro e w16 ⟨rfl, kk⟩
               have Bw16 := Bw15.trans (kk.mono Bw15.size)
               clear Bw15 kk))
          go_ret
          exact ⟨rfl, Bw16⟩
theorem blockCopies_api (w : World) (vl : Value) (L : List Sp) (hL : Sps w vl L) (vp : Value) (P : List Sp) (hP : Sps w vp P) (k0 : Int) (_ : (Lit.int .i64 k0).wf = true) : Calls Try.prog 6 #[vl, vp, .int .i64 k0] w fun e w' => e = .returned (.bool true) ∧ Below w.heap.size w w' := by
  have hL' := hL
  have hP' := hP
  obtain ⟨al, cl, rfl, _⟩ := hL
  obtain ⟨ap, cp, rfl, _⟩ := hP
  by_cases h1 : (40 : Int) < (L.length : Int)
  · exact copies_o1 A w _ _ _ _ _ _ _ h1
  by_cases h2 : (40 : Int) < (P.length : Int)
  · exact copies_o2 A w _ _ _ _ _ _ _ h1 h2
  exact copies_in A w _ _ k0 L P hL' hP' (by omega) (by omega)
end
end Go.Proofs.Ytpilfjdhpahphaa

/- BlockCuts over a promised device. -/
namespace Go.Proofs.Ytpilfjdhpahphaa
open Go.RowKit Go.Deep
set_option linter.unusedSimpArgs false
set_option linter.unusedVariables false

theorem wstrG {ops : Array Oper} {rest : List Oper} {o : Oper} {a : Act} {w : World} {Q : Exit → Act → World → Prop} {x : Operand} {v : Value} {l : List UInt8} (ho : o.op = .convert 39 9 x) (hx : a.eval x = v) (hB : Bs w v l) (hw : Region.wanted o (yielded ops a.tmps) = true)
    (h : wpList Try.prog ops Q rest (a.put o.dst (.string ⟨l.toArray⟩)) w) : wpList Try.prog ops Q (o :: rest) a w :=
  wpList_value_given hw _ (by rw [exec_mkOp, ho]; exact exec_str _ _ _ hx hB) h
theorem wseqN {ops : Array Oper} {rest : List Oper} {o : Oper} {a : Act} {w : World} {Q : Exit → Act → World → Prop} {x y : Operand} {l : List UInt8} (ho : o.op = .binOp .neq 9 x y 9) (hx : a.eval x = .string ⟨l.toArray⟩) (hy : a.eval y = .string ⟨l.toArray⟩) (hw : Region.wanted o (yielded ops a.tmps) = true)
    (h : wpList Try.prog ops Q rest (a.put o.dst (.bool false)) w) : wpList Try.prog ops Q (o :: rest) a w :=
  wpList_value_given hw _ (by rw [exec_mkOp, ho]; exact exec_strN _ _ _ _ hx hy) h
theorem wmaxG {ops : Array Oper} {rest : List Oper} {o : Oper} {a : Act} {w : World} {Q : Exit → Act → World → Prop} (hw : Region.wanted o (yielded ops a.tmps) = true) (x y : Operand) {ts : Array TypeId} (ho : o.op = .call { callee := .builtin .max, args := #[x, y], argTypes := ts }) {k : IntKind} {i j m : Int}
    (hx : a.eval x = .int k i) (hy : a.eval y = .int k j) (hm : m = if i < j then j else i) (h : wpList Try.prog ops Q rest (a.put o.dst (.int k m)) w) : wpList Try.prog ops Q (o :: rest) a w := by
  refine wpList_value_given hw (.int k m) ?_ h
  subst hm
  simp [execOp, ho, resolve, invoke, builtin, hx, hy, run_max_int2, Result.andThen]
/-- A device that was cut: behind i ops, c of them done at most. -/
structure cutI (S : DS) (n0 : Int) (c i : Nat) : Prop where
  n : S.n = 6
  ops : S.ops = i
  cut : S.cut = true
  st : (i ≤ c ∧ S.off = false ∧ S.left = n0 - (i : Int)) ∨ (c < i ∧ S.off = true)
theorem cutI.ok {S : DS} {n0 : Int} {c i : Nat} (h : cutI S n0 c i) (hc : (c : Int) = if n0 < 0 then 0 else n0) : opOk S = decide (i < c) := by
  unfold opOk
  rcases h.st with ⟨h1, h2, h3⟩ | ⟨h1, h2⟩
  · rw [h2, if_neg (by decide), h.cut, if_pos rfl, h3]
    by_cases h4 : i < c
    · rw [decide_eq_true h4, if_neg (by split at hc <;> omega)]
    · rw [decide_eq_false h4, if_pos (by split at hc <;> omega)]
  · rw [h2, if_pos rfl, decide_eq_false (by omega)]
theorem cutI.op {S : DS} {n0 : Int} {c i : Nat} (h : cutI S n0 c i) (hc : (c : Int) = if n0 < 0 then 0 else n0) : cutI (opD S) n0 c (i + 1) := by
  have e := opD_same S
  refine ⟨e.1.trans h.n, by rw [e.2.2.2, h.ops], ?_, ?_⟩
  · unfold opD
    split
    · exact h.cut
    · split
      · split <;> exact h.cut
      · exact h.cut
  · rcases h.st with ⟨h1, h2, h3⟩ | ⟨h1, h2⟩
    · by_cases h4 : i < c
      · have hl : ¬ S.left < 1 := by rw [h3]; split at hc <;> omega
        have e2 : opD S = { S with ops := S.ops + 1, left := S.left - 1 } := by
          unfold opD
          rw [h2, if_neg (by decide), h.cut, if_pos rfl, if_neg hl]
        refine .inl ⟨h4, by rw [e2]; exact h2, ?_⟩
        rw [e2]
        show S.left - 1 = _
        rw [h3]
        omega
      · have hl : S.left < 1 := by rw [h3]; split at hc <;> omega
        have e2 : opD S = { S with ops := S.ops + 1, off := true } := by
          unfold opD
          rw [h2, if_neg (by decide), h.cut, if_pos rfl, if_pos hl]
        exact .inr ⟨by omega, by rw [e2]⟩
    · refine .inr ⟨by omega, ?_⟩
      unfold opD
      rw [if_pos h2]
      exact h2
theorem cutI.wr {S : DS} {n0 : Int} {c i : Nat} (h : cutI S n0 c i) (hc : (c : Int) = if n0 < 0 then 0 else n0) (k : Nat) (hk : k < 6) (b : List UInt8) (hb : b.length = 64) : cutI (wrT S k b) n0 c (i + 1) ∧ wrE S k b = (if i < c then 0 else 10) ∧ (i < c → nowS (wrT S k b) k = b) := by
  have ha : argS S k b = true := by simp [argS, h.n, hb]; omega
  have ho := h.op hc
  unfold wrT wrE
  rw [if_pos ha, if_pos ha, h.ok hc]
  by_cases h4 : i < c
  · rw [decide_eq_true h4, if_pos rfl, if_pos rfl, if_pos h4]
    refine ⟨⟨ho.n, ho.ops, ho.cut, ho.st⟩, rfl, fun _ => ?_⟩
    unfold nowS atS
    have e : (wrS S (Int.toNat (k : Int)) b).pend k = S.pend k ++ [b] := by
      show (if k = Int.toNat (k : Int) then S.pend (Int.toNat (k : Int)) ++ [b] else S.pend k) = _
      rw [if_pos (by omega)]
      simp
    rw [e, if_neg (by simp), List.length_append]
    simp
  · rw [decide_eq_false h4, if_neg (by decide), if_neg (by decide), if_neg h4]
    exact ⟨ho, rfl, fun h => absurd h h4⟩
theorem cutI.fl {S : DS} {n0 : Int} {c i : Nat} (h : cutI S n0 c i) (hc : (c : Int) = if n0 < 0 then 0 else n0) : cutI (flT S) n0 c (i + 1) ∧ flE S = (if i < c then 0 else 10) := by
  have ho := h.op hc
  unfold flT flE
  rw [h.ok hc]
  by_cases h4 : i < c
  · rw [decide_eq_true h4, if_pos rfl, if_pos rfl, if_pos h4]
    exact ⟨⟨ho.n, ho.ops, ho.cut, ho.st⟩, rfl⟩
  · rw [decide_eq_false h4, if_neg (by decide), if_neg (by decide), if_neg h4]
    exact ⟨ho, rfl⟩
theorem cutI.off {S : DS} {n0 : Int} {c i : Nat} (h : cutI S n0 c i) : S.off = decide (c < i) := by
  rcases h.st with ⟨h1, h2, h3⟩ | ⟨h1, h2⟩
  · rw [h2, decide_eq_false (by omega)]
  · rw [h2, decide_eq_true h1]
section
variable {BkAt : (Nat → Prop) → (Nat → Prop) → World → Nat → DS → Prop} (A : BkApi BkAt)
include A
set_option maxHeartbeats 4000000 in
set_option maxRecDepth 20000 in
theorem cuts_o1 (w : World) (n0 : Int) (al : Option Addr) (nl cl : Nat) (h1 : n0 < -5) : Calls Try.prog 7 #[.int .i64 n0, .slice al nl cl] w fun e w' => e = .returned (.bool true) ∧ Below w.heap.size w w' := by
  have HA := Lib.hid A
  have Bw0 := Below.refl w.heap.size w
  clear A
  go_enter Try.func7, Try.ntmps7
  go_wp2_with (first
    | (have hgo := Bw0; clear hgo
       go_at_call 9
       refine (awake15_api HA.out _).mono ?_
       rintro e w1 ⟨rfl, kk⟩
       have Bw1 := Bw0.trans (kk.mono Bw0.size)
       clear Bw0 kk))
  go_ret
  exact ⟨rfl, Bw1⟩
set_option maxHeartbeats 4000000 in
set_option maxRecDepth 20000 in
theorem cuts_o2 (w : World) (n0 : Int) (al : Option Addr) (nl cl : Nat) (h1 : ¬ n0 < -5) (h2 : 100 < n0) : Calls Try.prog 7 #[.int .i64 n0, .slice al nl cl] w fun e w' => e = .returned (.bool true) ∧ Below w.heap.size w w' := by
  have HA := Lib.hid A
  have Bw0 := Below.refl w.heap.size w
  clear A
  go_enter Try.func7, Try.ntmps7
  go_wp2_with (first
    | (have hgo := Bw0; clear hgo
       go_at_call 9
       refine (awake15_api HA.out _).mono ?_
       rintro e w1 ⟨rfl, kk⟩
       have Bw1 := Bw0.trans (kk.mono Bw0.size)
       clear Bw0 kk))
  go_ret
  exact ⟨rfl, Bw1⟩
set_option maxHeartbeats 4000000 in
set_option maxRecDepth 20000 in
theorem cuts_o3 (w : World) (n0 : Int) (al : Option Addr) (nl cl : Nat) (h1 : ¬ n0 < -5) (h2 : ¬ 100 < n0) (h3 : (80 : Int) < (nl : Int)) : Calls Try.prog 7 #[.int .i64 n0, .slice al nl cl] w fun e w' => e = .returned (.bool true) ∧ Below w.heap.size w w' := by
  have HA := Lib.hid A
  have Bw0 := Below.refl w.heap.size w
  clear A
  go_enter Try.func7, Try.ntmps7
  go_wp2_with (first
    | (have hgo := Bw0; clear hgo
       go_at_call 9
       refine (awake15_api HA.out _).mono ?_
       rintro e w1 ⟨rfl, kk⟩
       have Bw1 := Bw0.trans (kk.mono Bw0.size)
       clear Bw0 kk))
  go_ret
  exact ⟨rfl, Bw1⟩
set_option maxHeartbeats 4000000 in
set_option maxRecDepth 20000 in
theorem cuts_in (w : World) (n0 : Int) (vl : Value) (L : List Sp) (hL : Sps w vl L) (hn1 : ¬ n0 < -5) (hn2 : ¬ 100 < n0) (hl : L.length ≤ 80) : Calls Try.prog 7 #[.int .i64 n0, vl] w fun e w' => e = .returned (.bool true) ∧ Below w.heap.size w w' := by
  have HA := Lib.hid A
  have HSP := Lib.hid hL
  have HOKL := Lib.hid hL.ok
  obtain ⟨al, cl, rfl, hlc, hcm, hlx, hly⟩ := hL
  clear hlc hcm hlx hly
  generalize hnl : L.length = N at *
  have HNL := Lib.hid hnl
  have g2 : ¬ (80 : Int) < (N : Int) := by omega
  obtain ⟨c, hc⟩ : ∃ c : Nat, (c : Int) = if n0 < 0 then 0 else n0 := ⟨(if n0 < 0 then 0 else n0).toNat, by split <;> omega⟩
  have HC := Lib.hid hc
  have HBD := Lib.hid (And.intro hl (And.intro hn1 hn2))
  have HCB : Hid (c ≤ 100) := Lib.hid (by split at hc <;> omega)
  have HOK0 := Lib.hid (cutS_ok (newS_ok 6 (by decide) (by decide)) n0 (show (Lit.int .i64 n0).wf = true by simp [Lit.wf, IntKind.min, IntKind.max, IntKind.signed, IntKind.bits]; omega))
  have HGS : Hid (∀ wq : World, Below w.heap.size w wq → w.heap.size ≤ wq.heap.size) := Lib.hid fun wq h => h.size
  have Bw0 := Below.refl w.heap.size w
  clear A hl hnl hc
  go_enter Try.func7, Try.ntmps7
  go_wp2_with (first
    | (have hgo := Bw0; clear hgo
       go_at_call 10
       refine (HA.out.newYes _ 6 (by decide) (by decide)).mono ?_
       rintro e w1 ⟨y, T, D, rfl, hb, hD, kk⟩
       have HB := Lib.hid hb
       have HTD : Hid (∀ b, T b → w.heap.size ≤ b) := Lib.hid fun b h => hD b (HA.out.sub _ _ _ _ _ hb b h)
       have Bw1 := kk
       clear Bw0 kk hb hD)
    | (have hgo := Bw1; clear hgo
       go_at_call 23
       refine (HA.out.cut T D _ y _ n0 HB.out).mono ?_
       rintro e w2 ⟨rfl, T2, D2, hb2, s2, t2, d2⟩
       have HB2 := Lib.hid hb2
       have HT2 : Hid (∀ b, T2 b → w.heap.size ≤ b) := Lib.hid fun b h => (t2 b h).elim (HTD.out b) fun h => Nat.le_trans Bw1.size h
       have Bw2 := Bw1.trans (s2.below HTD.out Bw1.size)
       clear Bw1 s2 t2 d2 hb2))
  go_loopw [7, 8, 9] (fun ov dv iv wr => ∃ (i d : Nat) (T D : Nat → Prop) (S : DS), i ≤ N ∧ iv = .int .i64 (i : Int) ∧ ov = .int .i64 (i : Int) ∧ dv = .int .i64 (d : Int) ∧ d = (if i < c then i else c) ∧ BkAt T D wr y S ∧ cutI S n0 c i ∧ okD S (0 + i) ∧ (∀ b, T b → w.heap.size ≤ b) ∧ Below w.heap.size w wr) (fun _ _ iv _ => N - (intOf iv).toNat)
  case atStart => exact ⟨0, 0, T2, D2, _, Nat.zero_le _, rfl, rfl, rfl, (by split <;> omega), HB2.out, ⟨rfl, rfl, rfl, .inl ⟨Nat.zero_le _, rfl, by show n0 = n0 - 0; omega⟩⟩, HOK0.out, HT2.out, Bw2⟩
  case round =>
    clear Bw2 HB2 HT2
    obtain ⟨i, d, T, D, S, hi, rfl, rfl, rfl, hd, hb, hcu, hok, hT, Bw0⟩ := hrel
    by_cases hlt : i < N
    · have hiI : 0 ≤ (i : Int) ∧ (i : Int) < (N : Int) := by omega
      have hil : i < L.length := by rw [HNL.out]; exact hlt
      obtain ⟨bb, off, cap', he, _, _, hbl, hit⟩ := HSP.out.open_cons (by rw [HNL.out]; omega)
      rw [HNL.out] at he
      cases he
      have hcx := (hit i hil).cells
      have HXO := Lib.hid (HOKL.out L[i] (List.getElem_mem _))
      generalize L[i] = X at *
      obtain ⟨K, MM, NN⟩ := X
      have HCX := Lib.hid hcx
      obtain ⟨k, hk⟩ : ∃ k : Nat, MM % 6 = (k : Int) := ⟨(MM % 6).toNat, by omega⟩
      have HK : Hid (MM % 6 = (k : Int) ∧ k < 6) := Lib.hid (by omega)
      have HMB := Lib.hid (bd_i64 HXO.out.m)
      have HB0 := Lib.hid hb
      have HCU := Lib.hid hcu
      have HOK := Lib.hid hok
      have HOKM := Lib.hid (hok.more (show 0 + i ≤ 100 by have := HBD.out; omega))
      have HT := Lib.hid hT
      have HI := Lib.hid hlt
      have HDD := Lib.hid hd
      obtain ⟨i1, hi1⟩ := nat_var (i + 1)
      have hwi : IntKind.i64.wrap ((i : Int) + 1) = (i1 : Int) := by rw [IntWalk.i64_in _ (by have := HBD.out; omega)]; omega
      have HI1 := Lib.hid hi1
      obtain ⟨d1, hd1⟩ := nat_var (d + 1)
      have hwd : IntKind.i64.wrap ((d : Int) + 1) = (d1 : Int) := by rw [IntWalk.i64_in _ (by have := HBD.out; have := HCB.out; split at hd <;> omega)]; omega
      have HD1 := Lib.hid hd1
      have HDL : Hid (((d : Int) < (c : Int)) ↔ i < c) := Lib.hid (by split at hd <;> omega)
      clear hi hil hit hbl hi1 hb hcu hok hT hd hd1 hk hcx hlt
      by_cases hic : i < c
      · skip
        by_cases hK : K = 2
        · skip
          have hdI : (d : Int) < (c : Int) := HDL.out.2 hic
          have HIC := Lib.hid hic
          clear hic
          subst hK
          have hc0 : World.cell? _ ⟨bb, off + i * 3, none⟩ = some (.int .i64 2) := HCX.out _ Bw0 0 (by decide)
          have hc1 : World.cell? _ ⟨bb, off + i * 3 + 1, none⟩ = some (.int .i64 MM) := HCX.out _ Bw0 1 (by decide)
          have hc2 : World.cell? _ ⟨bb, off + i * 3 + 2, none⟩ = some (.int .i64 NN) := HCX.out _ Bw0 2 (by decide)
          go_wp2_with (first
            | (have hgo := HMB; clear hgo
               go_at_call 24
               refine (round_any MM 6 _ HMB.out.1 HMB.out.2 (by decide) (by decide)).mono ?_
               rintro e wx ⟨rfl, hx⟩
               obtain rfl := hx.symm
               rw [HK.out.1]
               clear HMB)
            | (have hgo := Bw0; clear hgo
               go_at_call 25
               refine (block2_any _ 64 NN (by decide)).mono ?_
               rintro e w2 ⟨v_b, rfl, o_b, kk⟩
               have HB1 := Lib.hid (HA.out.stay _ _ (fun _ => False) _ _ _ _ HB0.out (Sam.of_below kk) (fun _ h => h.elim))
               have HTL : Hid (∀ b, T b → b < _) := Lib.hid fun b hb => HA.out.lt _ _ _ _ _ HB0.out b (HA.out.sub _ _ _ _ _ HB0.out b hb)
               have Bw1 := zbt HGS Bw0 kk
               replace hc0 : World.cell? _ ⟨bb, off + i * 3, none⟩ = some (.int .i64 2) := HCX.out _ Bw1 0 (by decide)
               clear Bw0 kk HB0 hc1 hc2)
            | (have hgo := Bw1; clear hgo
               go_at_call 20
               refine (HA.out.flush T D _ y S 100 HB1.out HOKM.out (by decide)).mono ?_
               rintro e w3 ⟨rfl, T3, D3, hb3, s3, t3, d3⟩
               rw [(HCU.out.fl HC.out).2, if_pos HIC.out]
               have HB3 := Lib.hid hb3
               have HT3 : Hid (∀ b, T3 b → w.heap.size ≤ b) := Lib.hid fun b h => (t3 b h).elim (HT.out b) fun h => Nat.le_trans Bw1.size h
               have Bw3 := Bw1.trans (s3.below HT.out Bw1.size)
               replace hc0 : World.cell? _ ⟨bb, off + i * 3, none⟩ = some (.int .i64 2) := HCX.out _ Bw3 0 (by decide)
               have HOK3 := Lib.hid (flT_ok HOK.out)
               have HCU3 := Lib.hid (HCU.out.fl HC.out).1
               clear Bw1 s3 t3 d3 hb3 HB1)
            | (have hgo := HCU3; clear hgo
               refine wmaxG rfl (.tmp 75) (.const (.int .i64 0)) rfl rfl rfl HC.out ?_)
            | (have hgo := Bw3; clear hgo
               go_at_call 16
               refine (read_to HA.out T3 D3 _ y _ 100 k HB3.out (HOK3.out.more (by have := HBD.out; have := HI.out; omega)) (by decide) (by rw [HCU3.out.n]; exact HK.out.2)).mono ?_
               rintro e w5 ⟨v_c, rfl, f_c, kk⟩
               have HB5 := Lib.hid (HA.out.stay _ _ (fun _ => False) _ _ _ _ HB3.out (Sam.of_below kk) (fun _ h => h.elim))
               have Bw5 := zbt HGS Bw3 kk
               replace hc0 : World.cell? _ ⟨bb, off + i * 3, none⟩ = some (.int .i64 2) := HCX.out _ Bw5 0 (by decide)
               clear Bw3 kk))
          go_roundw
          case rel => exact ⟨i + 1, d1, T3, D3, _, HI.out, by rw [HI1.out], by rw [HI1.out], rfl, (by have a := HDD.out; have b := HIC.out; have c := HD1.out; clear HC HBD HDL; split at a <;> split <;> omega), HB5.out, HCU3.out, HOK3.out, HT3.out, Bw5⟩
          case measure => (have := HI1.out; have := HI.out; simp [intOf]; try omega)
        · skip
          have hdI : (d : Int) < (c : Int) := HDL.out.2 hic
          have HIC := Lib.hid hic
          clear hic
          have hK2 : (K == 2) = false := by simpa using hK
          have hK3 : (K != 2) = true := by simpa using hK
          have HK2 := Lib.hid hK
          clear hK
          have hc0 : World.cell? _ ⟨bb, off + i * 3, none⟩ = some (.int .i64 K) := HCX.out _ Bw0 0 (by decide)
          have hc1 : World.cell? _ ⟨bb, off + i * 3 + 1, none⟩ = some (.int .i64 MM) := HCX.out _ Bw0 1 (by decide)
          have hc2 : World.cell? _ ⟨bb, off + i * 3 + 2, none⟩ = some (.int .i64 NN) := HCX.out _ Bw0 2 (by decide)
          go_wp2_with (first
            | (have hgo := HMB; clear hgo
               go_at_call 24
               refine (round_any MM 6 _ HMB.out.1 HMB.out.2 (by decide) (by decide)).mono ?_
               rintro e wx ⟨rfl, hx⟩
               obtain rfl := hx.symm
               rw [HK.out.1]
               clear HMB)
            | (have hgo := Bw0; clear hgo
               go_at_call 25
               refine (block2_any _ 64 NN (by decide)).mono ?_
               rintro e w2 ⟨v_b, rfl, o_b, kk⟩
               have HB1 := Lib.hid (HA.out.stay _ _ (fun _ => False) _ _ _ _ HB0.out (Sam.of_below kk) (fun _ h => h.elim))
               have HTL : Hid (∀ b, T b → b < _) := Lib.hid fun b hb => HA.out.lt _ _ _ _ _ HB0.out b (HA.out.sub _ _ _ _ _ HB0.out b hb)
               have Bw1 := zbt HGS Bw0 kk
               replace hc0 : World.cell? _ ⟨bb, off + i * 3, none⟩ = some (.int .i64 K) := HCX.out _ Bw1 0 (by decide)
               clear Bw0 kk HB0 hc1 hc2)
            | (have hgo := Bw1; clear hgo
               go_at_call 19
               refine (HA.out.write T D _ y S 100 (k : Int) v_b (blkL NN 64) HB1.out HOKM.out (by decide) (BsK.own o_b HTL.out)).mono ?_
               rintro e w3 ⟨rfl, T3, D3, hb3, s3, t3, d3⟩
               have hww := HCU.out.wr HC.out k HK.out.2 (blkL NN 64) (blkL_len _ _)
               rw [hww.2.1, if_pos HIC.out]
               have HB3 := Lib.hid hb3
               have f_b : Bs w3 v_b (blkL NN 64) := (BsK.own o_b HTL.out) w3 s3
               have HT3 : Hid (∀ b, T3 b → w.heap.size ≤ b) := Lib.hid fun b h => (t3 b h).elim (HT.out b) fun h => Nat.le_trans Bw1.size h
               have Bw3 := Bw1.trans (s3.below HT.out Bw1.size)
               replace hc0 : World.cell? _ ⟨bb, off + i * 3, none⟩ = some (.int .i64 K) := HCX.out _ Bw3 0 (by decide)
               have HOK3 := Lib.hid (wrT_ok HOK.out (k : Int) (blkL NN 64))
               have HCU3 := Lib.hid hww.1
               have HNOW := Lib.hid hww.2.2
               clear Bw1 s3 t3 d3 hb3 HB1 hww o_b)
            | (have hgo := HCU3; clear hgo
               refine wmaxG rfl (.tmp 75) (.const (.int .i64 0)) rfl rfl rfl HC.out ?_)
            | (have hgo := Bw3; clear hgo
               go_at_call 16
               refine (read_to HA.out T3 D3 _ y _ 100 k HB3.out (HOK3.out.more (by have := HBD.out; have := HI.out; omega)) (by decide) (by rw [HCU3.out.n]; exact HK.out.2)).mono ?_
               rintro e w5 ⟨v_c, rfl, f_c, kk⟩
               rw [HNOW.out HIC.out] at f_c
               replace f_b := zfb f_b kk
               have HB5 := Lib.hid (HA.out.stay _ _ (fun _ => False) _ _ _ _ HB3.out (Sam.of_below kk) (fun _ h => h.elim))
               have Bw5 := zbt HGS Bw3 kk
               replace hc0 : World.cell? _ ⟨bb, off + i * 3, none⟩ = some (.int .i64 K) := HCX.out _ Bw5 0 (by decide)
               clear Bw3 kk)
            | (have hgo := Bw5; clear hgo
               refine wstrG rfl rfl f_c rfl ?_)
            | (have hgo := Bw5; clear hgo
               refine wstrG rfl rfl f_b rfl ?_)
            | (have hgo := Bw5; clear hgo
               refine wseqN (l := blkL NN 64) rfl rfl rfl rfl ?_))
          go_roundw
          case rel => exact ⟨i + 1, d1, T3, D3, _, HI.out, by rw [HI1.out], by rw [HI1.out], rfl, (by have a := HDD.out; have b := HIC.out; have c := HD1.out; clear HC HBD HDL; split at a <;> split <;> omega), HB5.out, HCU3.out, HOK3.out, HT3.out, Bw5⟩
          case measure => (have := HI1.out; have := HI.out; simp [intOf]; try omega)
      · skip
        by_cases hK : K = 2
        · skip
          have hdI : ¬ (d : Int) < (c : Int) := fun h => hic (HDL.out.1 h)
          have HIC := Lib.hid hic
          clear hic
          subst hK
          have hc0 : World.cell? _ ⟨bb, off + i * 3, none⟩ = some (.int .i64 2) := HCX.out _ Bw0 0 (by decide)
          have hc1 : World.cell? _ ⟨bb, off + i * 3 + 1, none⟩ = some (.int .i64 MM) := HCX.out _ Bw0 1 (by decide)
          have hc2 : World.cell? _ ⟨bb, off + i * 3 + 2, none⟩ = some (.int .i64 NN) := HCX.out _ Bw0 2 (by decide)
          go_wp2_with (first
            | (have hgo := HMB; clear hgo
               go_at_call 24
               refine (round_any MM 6 _ HMB.out.1 HMB.out.2 (by decide) (by decide)).mono ?_
               rintro e wx ⟨rfl, hx⟩
               obtain rfl := hx.symm
               rw [HK.out.1]
               clear HMB)
            | (have hgo := Bw0; clear hgo
               go_at_call 25
               refine (block2_any _ 64 NN (by decide)).mono ?_
               rintro e w2 ⟨v_b, rfl, o_b, kk⟩
               have HB1 := Lib.hid (HA.out.stay _ _ (fun _ => False) _ _ _ _ HB0.out (Sam.of_below kk) (fun _ h => h.elim))
               have HTL : Hid (∀ b, T b → b < _) := Lib.hid fun b hb => HA.out.lt _ _ _ _ _ HB0.out b (HA.out.sub _ _ _ _ _ HB0.out b hb)
               have Bw1 := zbt HGS Bw0 kk
               replace hc0 : World.cell? _ ⟨bb, off + i * 3, none⟩ = some (.int .i64 2) := HCX.out _ Bw1 0 (by decide)
               clear Bw0 kk HB0 hc1 hc2)
            | (have hgo := Bw1; clear hgo
               go_at_call 20
               refine (HA.out.flush T D _ y S 100 HB1.out HOKM.out (by decide)).mono ?_
               rintro e w3 ⟨rfl, T3, D3, hb3, s3, t3, d3⟩
               rw [(HCU.out.fl HC.out).2, if_neg HIC.out]
               have HB3 := Lib.hid hb3
               have HT3 : Hid (∀ b, T3 b → w.heap.size ≤ b) := Lib.hid fun b h => (t3 b h).elim (HT.out b) fun h => Nat.le_trans Bw1.size h
               have Bw3 := Bw1.trans (s3.below HT.out Bw1.size)
               replace hc0 : World.cell? _ ⟨bb, off + i * 3, none⟩ = some (.int .i64 2) := HCX.out _ Bw3 0 (by decide)
               have HOK3 := Lib.hid (flT_ok HOK.out)
               have HCU3 := Lib.hid (HCU.out.fl HC.out).1
               clear Bw1 s3 t3 d3 hb3 HB1)
            | (have hgo := HCU3; clear hgo
               refine wmaxG rfl (.tmp 75) (.const (.int .i64 0)) rfl rfl rfl HC.out ?_))
          go_roundw
          case rel => exact ⟨i + 1, d, T3, D3, _, HI.out, by rw [HI1.out], by rw [HI1.out], rfl, (by have a := HDD.out; have b := HIC.out; clear HC HBD HDL; split at a <;> split <;> omega), HB3.out, HCU3.out, HOK3.out, HT3.out, Bw3⟩
          case measure => (have := HI1.out; have := HI.out; simp [intOf]; try omega)
        · skip
          have hdI : ¬ (d : Int) < (c : Int) := fun h => hic (HDL.out.1 h)
          have HIC := Lib.hid hic
          clear hic
          have hK2 : (K == 2) = false := by simpa using hK
          have hK3 : (K != 2) = true := by simpa using hK
          have HK2 := Lib.hid hK
          clear hK
          have hc0 : World.cell? _ ⟨bb, off + i * 3, none⟩ = some (.int .i64 K) := HCX.out _ Bw0 0 (by decide)
          have hc1 : World.cell? _ ⟨bb, off + i * 3 + 1, none⟩ = some (.int .i64 MM) := HCX.out _ Bw0 1 (by decide)
          have hc2 : World.cell? _ ⟨bb, off + i * 3 + 2, none⟩ = some (.int .i64 NN) := HCX.out _ Bw0 2 (by decide)
          go_wp2_with (first
            | (have hgo := HMB; clear hgo
               go_at_call 24
               refine (round_any MM 6 _ HMB.out.1 HMB.out.2 (by decide) (by decide)).mono ?_
               rintro e wx ⟨rfl, hx⟩
               obtain rfl := hx.symm
               rw [HK.out.1]
               clear HMB)
            | (have hgo := Bw0; clear hgo
               go_at_call 25
               refine (block2_any _ 64 NN (by decide)).mono ?_
               rintro e w2 ⟨v_b, rfl, o_b, kk⟩
               have HB1 := Lib.hid (HA.out.stay _ _ (fun _ => False) _ _ _ _ HB0.out (Sam.of_below kk) (fun _ h => h.elim))
               have HTL : Hid (∀ b, T b → b < _) := Lib.hid fun b hb => HA.out.lt _ _ _ _ _ HB0.out b (HA.out.sub _ _ _ _ _ HB0.out b hb)
               have Bw1 := zbt HGS Bw0 kk
               replace hc0 : World.cell? _ ⟨bb, off + i * 3, none⟩ = some (.int .i64 K) := HCX.out _ Bw1 0 (by decide)
               clear Bw0 kk HB0 hc1 hc2)
            | (have hgo := Bw1; clear hgo
               go_at_call 19
               refine (HA.out.write T D _ y S 100 (k : Int) v_b (blkL NN 64) HB1.out HOKM.out (by decide) (BsK.own o_b HTL.out)).mono ?_
               rintro e w3 ⟨rfl, T3, D3, hb3, s3, t3, d3⟩
               have hww := HCU.out.wr HC.out k HK.out.2 (blkL NN 64) (blkL_len _ _)
               rw [hww.2.1, if_neg HIC.out]
               have HB3 := Lib.hid hb3
               have f_b : Bs w3 v_b (blkL NN 64) := (BsK.own o_b HTL.out) w3 s3
               have HT3 : Hid (∀ b, T3 b → w.heap.size ≤ b) := Lib.hid fun b h => (t3 b h).elim (HT.out b) fun h => Nat.le_trans Bw1.size h
               have Bw3 := Bw1.trans (s3.below HT.out Bw1.size)
               replace hc0 : World.cell? _ ⟨bb, off + i * 3, none⟩ = some (.int .i64 K) := HCX.out _ Bw3 0 (by decide)
               have HOK3 := Lib.hid (wrT_ok HOK.out (k : Int) (blkL NN 64))
               have HCU3 := Lib.hid hww.1
               have HNOW := Lib.hid hww.2.2
               clear Bw1 s3 t3 d3 hb3 HB1 hww o_b)
            | (have hgo := HCU3; clear hgo
               refine wmaxG rfl (.tmp 75) (.const (.int .i64 0)) rfl rfl rfl HC.out ?_))
          go_roundw
          case rel => exact ⟨i + 1, d, T3, D3, _, HI.out, by rw [HI1.out], by rw [HI1.out], rfl, (by have a := HDD.out; have b := HIC.out; clear HC HBD HDL; split at a <;> split <;> omega), HB3.out, HCU3.out, HOK3.out, HT3.out, Bw3⟩
          case measure => (have := HI1.out; have := HI.out; simp [intOf]; try omega)
    · obtain rfl : i = N := by omega
      have hiI : ¬ (i : Int) < (i : Int) := by omega
      have HB0 := Lib.hid hb
      have HOKM := Lib.hid (hok.more (show 0 + i ≤ 100 by have := HBD.out; omega))
      have HOPS := Lib.hid hcu.ops
      have HOFF := Lib.hid hcu.off
      obtain ⟨OF, hOF⟩ : ∃ x, x = decide (c < i) := ⟨_, rfl⟩
      rw [← hOF] at HOFF
      have hoff := hOF.symm
      clear hi hlt hb hcu hok hT hd hOF
      go_wp2_with (first
        | (have hgo := Bw0; clear hgo
           go_at_call 26
           refine (HA.out.ops T D _ y S 100 HB0.out HOKM.out).mono ?_
           rintro e w2 ⟨rfl, kk⟩
           rw [HOPS.out]
           have HB1 := Lib.hid (HA.out.stay _ _ (fun _ => False) _ _ _ _ HB0.out (Sam.of_below kk) (fun _ h => h.elim))
           have Bw1 := zbt HGS Bw0 kk
           clear Bw0 kk HB0)
        | (have hgo := Bw1; clear hgo
           go_at_call 21
           refine (HA.out.off T D _ y S 100 HB1.out HOKM.out).mono ?_
           rintro e w3 ⟨rfl, kk⟩
           rw [HOFF.out]
           have Bw3 := zbt HGS Bw1 kk
           clear Bw1 kk HB1)
        | (have hgo := Bw3; clear hgo
           refine wmaxG rfl (.tmp 122) (.const (.int .i64 0)) rfl rfl rfl HC.out ?_)
        | (have hgo := Bw3; clear hgo
           go_at_call 9
           refine (awake15_api HA.out _).mono ?_
           rintro e w9 ⟨rfl, kk⟩
           have Bw9 := Bw3.trans (kk.mono Bw3.size)
           clear Bw3 kk))
      go_ret
      exact ⟨rfl, Bw9⟩
theorem blockCuts_api (w : World) (n0 : Int) (_ : (Lit.int .i64 n0).wf = true) (vl : Value) (L : List Sp) (hL : Sps w vl L) : Calls Try.prog 7 #[.int .i64 n0, vl] w fun e w' => e = .returned (.bool true) ∧ Below w.heap.size w w' := by
  have hL' := hL
  obtain ⟨al, cl, rfl, _⟩ := hL
  by_cases h1 : n0 < -5
  · exact cuts_o1 A w n0 _ _ _ h1
  by_cases h2 : 100 < n0
  · exact cuts_o2 A w n0 _ _ _ h1 h2
  by_cases h3 : (80 : Int) < (L.length : Int)
  · exact cuts_o3 A w n0 _ _ _ h1 h2 h3
  exact cuts_in A w n0 _ L hL' h1 h2 (by omega)
end
end Go.Proofs.Ytpilfjdhpahphaa

/- A region in which rows of bytes of one's own grow beside each other: its steps. -/
namespace Go.Proofs.Ytpilfjdhpahphaa
open Go.RowKit Go.Deep
set_option linter.unusedSimpArgs false
set_option linter.unusedVariables false

section
variable {P : Program} {ops : Array Oper} {Q : Exit → Act → World → Prop}
/-- A region in which E alone turns, up to what C says behind it. -/
theorem wp_region_linC {id : Nat} {a : Act} {w : World} (E : World → World → Prop) (hrf : ∀ w, E w w) (htr : ∀ w1 w2 w3, E w1 w2 → E w2 w3 → E w1 w3) (n c : Nat) (r : Stp) (hm : P.follows .mixedOrders = true) (hs : Region.noSelect ops = true) (hl : r.depth ≤ ops.size)
    (hk : planOk ops n [(r, c)] (Array.replicate ops.size false) = true) (hQ : ∀ d v c a w, Q (.panic c) (Act.put a d v) w → Q (.panic c) a w) (C : Act → World → Prop)
    (h : LinZ P ops Q E C r a w.drew) (h2 : ∀ a' w', C a' w' → Q .normal a' w') : (Code.region id ops true).wp P Q a w :=
  wp_region_plan E hrf htr n [(r, c)] hm hs (by simpa [planDepth] using hl) hk hQ ⟨C, h, fun a' w' h => h2 a' w' h⟩
end
theorem owns_grow {w w' : World} {base : Nat} {x y : Value} {l : List UInt8} (h : Owns w base y l) (g : w.grownBy w' x.ownBlock) (d : Apart x y) : Owns w' base y l :=
  h.sam (Sam.of_grown (F := fun b => x.ownBlock = some b) g fun b hb => hb) fun b hb hx => d b hx hb
theorem Vs.bss {w : World} {v : Value} {f : Nat → Value} {L : List (List UInt8)} (h : Vs w v L.length f) (hf : ∀ i (hi : i < L.length), Bs w (f i) L[i]) : Bss w v L := by
  obtain ⟨a, cap, rfl, h1, h2, h3, h4⟩ := h
  exact ⟨a, cap, rfl, h1, h2, h3, fun x hx i hi => ⟨(h4 x hx i hi).1, f i, (h4 x hx i hi).2, hf i hi⟩⟩
section
variable {ops : Array Oper} {Q : Exit → Act → World → Prop} {K : Act → World → Prop} {B : Nat}
theorem zLaid0 {i : Nat} {r : Stp} {a : Act} {w : World} {o : Oper} (d : Nat) (t : TypeId) (ho : ops[i]? = some o) (hd : o.dst = some d) (hop : o.op = .buildSlice 39 0 #[]) (ht : o.type = t) (hw : Region.wanted o (yielded ops a.tmps) = true) (hB : B ≤ w.heap.size)
    (h : ∀ v w', Owns w' B v [] → (∀ b, v.ownBlock = some b → w.heap.size ≤ b) → Below w.heap.size w w' → B ≤ w'.heap.size → LinZ Try.prog ops Q (Below B) K r (a.put (some d) v) w') : wpOp Try.prog ops Q i (fun a' w' => Below B w w' ∧ LinZ Try.prog ops Q (Below B) K r a' w') a w :=
  have hb : Below w.heap.size w (w.alloc (.cells #[] 5)) := (Below.refl _ _).alloc (Nat.le_refl _) _
  have hx : (execOp a.eval (mkOp (.buildSlice 39 0 #[]) t)).run Try.prog w = .ok (.value (.slice (some ⟨w.heap.size, 0, none⟩) 0 0)) (w.alloc (.cells #[] 5)) := by unfold mkOp; go_simp
  stpz_made d _ t _ _ ho hd hop ht hw hx (hb.mono hB) (h _ _ (Owns.lower (show Owns _ w.heap.size _ [] from OwnV.laid w 5 #[] 0 rfl (by unfold maxLen; omega)) hB) (fun b hb => by cases hb; exact Nat.le_refl _) hb (Nat.le_trans hB hb.size))
theorem zApp {i : Nat} {r : Stp} {a : Act} {w : World} {o : Oper} (d : Nat) (s x : Operand) (t : TypeId) (v vb : Value) (l lb : List UInt8) (ho : ops[i]? = some o) (hd : o.dst = some d) (hop : o.op = .call { callee := .builtin .append, args := #[s, x], argTypes := #[39, 39] }) (ht : o.type = t) (hw : Region.wanted o (yielded ops a.tmps) = true)
    (hown : Owns w B v l) (hb : Bs w vb lb) (hs : a.eval s = v) (hx : a.eval x = vb) (hlen : l.length + lb.length ≤ 2147483647) (hB : B ≤ w.heap.size)
    (h : ∀ v' w', Owns w' B v' (l ++ lb) → w.grownBy w' v.ownBlock → (v'.ownBlock = v.ownBlock ∨ ∀ b, v'.ownBlock = some b → w.heap.size ≤ b) → Below B w w' → B ≤ w'.heap.size → LinZ Try.prog ops Q (Below B) K r (a.put (some d) v') w') : wpOp Try.prog ops Q i (fun a' w' => Below B w w' ∧ LinZ Try.prog ops Q (Below B) K r a' w') a w := by
  obtain ⟨v', w', hr, k1, k2, k3⟩ := exec_app a.eval s x t B v vb l lb hown hb hs hx hlen hB
  have hb' : Below B w w' := (Below.refl _ _).grown k2 hB (fun k hk => Owns.block hown k hk)
  exact stpz_made d _ t _ _ ho hd hop ht hw hr hb' (h v' w' k1 k2 k3 hb' (Nat.le_trans hB k2.size))
theorem zRows5 {i : Nat} {r : Stp} {a : Act} {w : World} {o : Oper} (d : Nat) (t : TypeId) (x1 x2 x3 x4 x5 : Operand) (ho : ops[i]? = some o) (hd : o.dst = some d) (hop : o.op = .buildSlice 42 5 #[(0, x1), (1, x2), (2, x3), (3, x4), (4, x5)]) (ht : o.type = t) (hw : Region.wanted o (yielded ops a.tmps) = true)
    {v1 v2 v3 v4 v5 : Value} {l1 l2 l3 l4 l5 : List UInt8} (h1 : Bs w v1 l1) (h2 : Bs w v2 l2) (h3 : Bs w v3 l3) (h4 : Bs w v4 l4) (h5 : Bs w v5 l5) (e1 : a.eval x1 = v1) (e2 : a.eval x2 = v2) (e3 : a.eval x3 = v3) (e4 : a.eval x4 = v4) (e5 : a.eval x5 = v5) (hB : B ≤ w.heap.size)
    (h : ∀ v w', Bss w' v [l1, l2, l3, l4, l5] → Below w.heap.size w w' → LinZ Try.prog ops Q (Below B) K r (a.put (some d) v) w') : wpOp Try.prog ops Q i (fun a' w' => Below B w w' ∧ LinZ Try.prog ops Q (Below B) K r a' w') a w := by
  obtain ⟨a1, c1, rfl, _⟩ := id h1
  obtain ⟨a2, c2, rfl, _⟩ := id h2
  obtain ⟨a3, c3, rfl, _⟩ := id h3
  obtain ⟨a4, c4, rfl, _⟩ := id h4
  obtain ⟨a5, c5, rfl, _⟩ := id h5
  have hb : Below w.heap.size w (w.alloc (.cells #[.slice a1 l1.length c1, .slice a2 l2.length c2, .slice a3 l3.length c3, .slice a4 l4.length c4, .slice a5 l5.length c5] 39)) := (Below.refl _ _).alloc (Nat.le_refl _) _
  have hx : (execOp a.eval (mkOp (.buildSlice 42 5 #[(0, x1), (1, x2), (2, x3), (3, x4), (4, x5)]) t)).run Try.prog w = .ok (.value (.slice (some ⟨w.heap.size, 0, none⟩) 5 5)) (w.alloc (.cells #[.slice a1 l1.length c1, .slice a2 l2.length c2, .slice a3 l3.length c3, .slice a4 l4.length c4, .slice a5 l5.length c5] 39)) := by
    simp only [execOp, mkOp, List.map_toArray, List.map_cons, List.map_nil, e1, e2, e3, e4, e5]
    go_simp
  refine stpz_made d _ t _ _ ho hd hop ht hw hx (hb.mono hB) (h _ _ (Vs.bss (L := [l1, l2, l3, l4, l5]) (OwnV.laid w 39 #[.slice a1 l1.length c1, .slice a2 l2.length c2, .slice a3 l3.length c3, .slice a4 l4.length c4, .slice a5 l5.length c5] 5 rfl (by unfold maxLen; omega)).vs fun i hi => ?_) hb)
  have hi' : i < 5 := hi
  rcases (show i = 0 ∨ i = 1 ∨ i = 2 ∨ i = 3 ∨ i = 4 by omega) with rfl | rfl | rfl | rfl | rfl
  · exact zfb h1 hb
  · exact zfb h2 hb
  · exact zfb h3 hb
  · exact zfb h4 hb
  · exact zfb h5 hb
end
end Go.Proofs.Ytpilfjdhpahphaa

/- BlockTears over a promised device. -/
namespace Go.Proofs.Ytpilfjdhpahphaa
open Go.RowKit Go.Deep
set_option linter.unusedSimpArgs false
set_option linter.unusedVariables false

theorem tear_st (X Y : List UInt8) (p : Int) (hX : X.length = 64) (hY : Y.length = 64) : wrE (newS 1) 0 X = 0 ∧ wrE (wrT (newS 1) 0 X) 0 Y = 0 ∧ (wrT (wrT (newS 1) 0 X) 0 Y).n = 1 ∧
    crG (wrT (wrT (newS 1) 0 X) 0 Y) 1 (fun _ => p) 0 = ([List.replicate 64 0, X.take 32 ++ (List.replicate 64 0).drop 32, X, Y.take 32 ++ X.drop 32, Y] : List (List UInt8)).getD (p % 5).toNat [] := by
  have ha : argS (newS 1) 0 X = true := by simp [argS, newS, hX]
  have ho : opOk (newS 1) = true := by decide
  have e1 : wrT (newS 1) 0 X = wrS (newS 1) 0 X := by
    unfold wrT
    rw [if_pos ha, if_pos ho]
    rfl
  have ha2 : argS (wrS (newS 1) 0 X) 0 Y = true := by simp [argS, wrS, opD, newS, hY]
  have ho2 : opOk (wrS (newS 1) 0 X) = true := rfl
  have e2 : wrT (wrS (newS 1) 0 X) 0 Y = wrS (wrS (newS 1) 0 X) 0 Y := by
    unfold wrT
    rw [if_pos ha2, if_pos ho2]
    rfl
  refine ⟨by unfold wrE; rw [if_pos ha, if_pos ho], by rw [e1]; unfold wrE; rw [if_pos ha2, if_pos ho2], by rw [e1, e2]; rfl, ?_⟩
  rw [e1, e2]
  have hp : (wrS (wrS (newS 1) 0 X) 0 Y).pend 0 = [X, Y] := rfl
  have hg : (wrS (wrS (newS 1) 0 X) 0 Y).good 0 = List.replicate 64 0 := rfl
  have hk : pickS (wrS (wrS (newS 1) 0 X) 0 Y) 1 (fun _ => p) 0 = (p % 5).toNat := by
    unfold pickS
    rw [hp, if_neg (by simp)]
    rfl
  obtain ⟨q, hq⟩ : ∃ q, q = (p % 5).toNat := ⟨_, rfl⟩
  have hq5 : q < 5 := by have := Int.emod_lt_of_pos p (b := 5) (by decide); omega
  unfold crG
  rw [hk, ← hq, hp]
  have a0 : atS (wrS (wrS (newS 1) 0 X) 0 Y) 0 0 = List.replicate 64 0 := rfl
  have a1 : atS (wrS (wrS (newS 1) 0 X) 0 Y) 0 1 = X := rfl
  have a2 : atS (wrS (wrS (newS 1) 0 X) 0 Y) 0 2 = Y := rfl
  rcases (show q = 0 ∨ q = 1 ∨ q = 2 ∨ q = 3 ∨ q = 4 by omega) with rfl | rfl | rfl | rfl | rfl
  · exact a0
  · rfl
  · exact a1
  · rfl
  · exact a2
theorem round5_to (k : Int) (R : Nat) (w : World) (hb : -9223372036854775808 ≤ k ∧ k ≤ 9223372036854775807) (h : k % 5 = (R : Int)) : Calls Try.prog 24 #[.int .i64 k, .int .i64 5] w fun e w' => e = .returned (.int .i64 (R : Int)) ∧ Below w.heap.size w w' := by
  refine (round_any k 5 w hb.1 hb.2 (by decide) (by decide)).mono ?_
  rintro e w' ⟨rfl, rfl⟩
  exact ⟨by rw [h], Below.refl _ _⟩
section
variable {BkAt : (Nat → Prop) → (Nat → Prop) → World → Nat → DS → Prop} (A : BkApi BkAt)
include A
set_option maxHeartbeats 4000000 in
set_option maxRecDepth 20000 in
theorem tears_in (w : World) (a0 b0 p0 : Int) (ha : (Lit.int .i64 a0).wf = true) (hb : (Lit.int .i64 b0).wf = true) (hp : (Lit.int .i64 p0).wf = true) : Calls Try.prog 8 #[.int .i64 a0, .int .i64 b0, .int .i64 p0] w fun e w' => e = .returned (.bool true) ∧ Below w.heap.size w w' := by
  have HA := Lib.hid A
  have HBA := Lib.hid (bd_i64 ha)
  have HBB := Lib.hid (bd_i64 hb)
  have HBP := Lib.hid (And.intro hp (bd_i64 hp))
  obtain ⟨ra, hra⟩ : ∃ r, r = a0 % 100 := ⟨_, rfl⟩
  obtain ⟨rb, hrb⟩ : ∃ r, r = b0 % 100 := ⟨_, rfl⟩
  have HRA := Lib.hid hra
  have HRB := Lib.hid hrb
  obtain ⟨X, hX⟩ : ∃ l, l = blkL ra 64 := ⟨_, rfl⟩
  obtain ⟨Y, hY⟩ : ∃ l, l = blkL rb 64 := ⟨_, rfl⟩
  have HXL : Hid (X.length = 64) := Lib.hid (by rw [hX, blkL_len])
  have HYL : Hid (Y.length = 64) := Lib.hid (by rw [hY, blkL_len])
  have HX := Lib.hid hX
  have HY := Lib.hid hY
  have HOK := Lib.hid (newS_ok 1 (by decide) (by decide))
  have HW := Lib.hid (tear_st X Y p0 HXL.out HYL.out)
  obtain ⟨S2, hS2⟩ : ∃ S, S = wrT (wrT (newS 1) 0 X) 0 Y := ⟨_, rfl⟩
  have HS2 := Lib.hid hS2
  have HOK2 : Hid (okD S2 2) := Lib.hid (by rw [hS2]; exact wrT_ok (wrT_ok HOK.out 0 X) 0 Y)
  rw [← hS2] at HW
  have HGS : Hid (∀ wq : World, Below w.heap.size w wq → w.heap.size ≤ wq.heap.size) := Lib.hid fun wq h => h.size
  have Bw0 := Below.refl w.heap.size w
  clear A ha hb hp hra hrb hX hY hS2
  go_enter Try.func8, Try.ntmps8
  go_wp2_with (first
    | (have hgo := Bw0; clear hgo
       go_at_call 10
       refine (HA.out.newYes _ 1 (by decide) (by decide)).mono ?_
       rintro e w1 ⟨y, T, D, rfl, hb, hD, kk⟩
       have HB := Lib.hid hb
       have HTD : Hid (∀ b, T b → w.heap.size ≤ b) := Lib.hid fun b h => hD b (HA.out.sub _ _ _ _ _ hb b h)
       have Bw1 := kk
       clear Bw0 kk hb hD)
    | (have hgo := HBA; clear hgo
       go_at_call 24
       refine (round_any a0 100 _ HBA.out.1 HBA.out.2 (by decide) (by decide)).mono ?_
       rintro e wx ⟨rfl, hx⟩
       obtain rfl := hx.symm
       rw [← HRA.out]
       clear HBA)
    | (have hgo := Bw1; clear hgo
       go_at_call 25
       refine (block2_any _ 64 ra (by decide)).mono ?_
       rintro e w2 ⟨v_x, rfl, o_x, kk⟩
       rw [← HX.out] at o_x
       have HB2 := Lib.hid (HA.out.stay _ _ (fun _ => False) _ _ _ _ HB.out (Sam.of_below kk) (fun _ h => h.elim))
       have HTL : Hid (∀ b, T b → b < w1.heap.size) := Lib.hid fun b hb => HA.out.lt _ _ _ _ _ HB.out b (HA.out.sub _ _ _ _ _ HB.out b hb)
       have L12 := Lib.hid kk.size
       have Bw2 := zbt HGS Bw1 kk
       clear Bw1 kk HB)
    | (have hgo := HBB; clear hgo
       go_at_call 24
       refine (round_any b0 100 _ HBB.out.1 HBB.out.2 (by decide) (by decide)).mono ?_
       rintro e wx ⟨rfl, hx⟩
       obtain rfl := hx.symm
       rw [← HRB.out]
       clear HBB)
    | (have hgo := Bw2; clear hgo
       go_at_call 25
       refine (block2_any _ 64 rb (by decide)).mono ?_
       rintro e w3 ⟨v_y, rfl, o_y, kk⟩
       rw [← HY.out] at o_y
       have HB3 := Lib.hid (HA.out.stay _ _ (fun _ => False) _ _ _ _ HB2.out (Sam.of_below kk) (fun _ h => h.elim))
       replace o_x := Owns.belowJ o_x kk
       have Bw3 := zbt HGS Bw2 kk
       clear Bw2 kk HB2)
    | (have hgo := Bw3; clear hgo
       go_at_call 19
       refine (HA.out.write T D _ y (newS 1) 0 0 v_x X HB3.out HOK.out (by decide) (BsK.own o_x HTL.out)).mono ?_
       rintro e w4 ⟨rfl, T4, D4, hb4, s4, t4, d4⟩
       rw [HW.out.1]
       have HB4 := Lib.hid hb4
       have HT4 : Hid (∀ b, T4 b → w.heap.size ≤ b) := Lib.hid fun b h => (t4 b h).elim (HTD.out b) fun h => Nat.le_trans Bw3.size h
       have f_x : Bs w4 v_x X := (BsK.own o_x HTL.out) w4 s4
       have HYK : Hid (BsK T4 w4 v_y Y) := Lib.hid (BsK.wide (M := T) (BsK.own o_y fun b hb => Nat.lt_of_lt_of_le (HTL.out b hb) L12.out) s4 t4)
       have HXK : Hid (BsK T4 w4 v_x X) := Lib.hid (BsK.wide (M := T) (BsK.own o_x HTL.out) s4 t4)
       have Bw4 := Bw3.trans (s4.below HTD.out Bw3.size)
       clear Bw3 hb4 s4 t4 d4 HB3 o_x o_y f_x)
    | (have hgo := Bw4; clear hgo
       go_at_call 19
       refine (HA.out.write T4 D4 _ y (wrT (newS 1) 0 X) 1 0 v_y Y HB4.out (wrT_ok HOK.out 0 X) (by decide) HYK.out).mono ?_
       rintro e w5 ⟨rfl, T5, D5, hb5, s5, t5, d5⟩
       rw [HW.out.2.1]
       rw [← HS2.out] at hb5
       have HB5 := Lib.hid hb5
       have f_x : Bs w5 v_x X := HXK.out w5 s5
       have f_y : Bs w5 v_y Y := HYK.out w5 s5
       have Bw5 := Bw4.trans (s5.below HT4.out Bw4.size)
       clear Bw4 hb5 s5 t5 d5 HB4 HYK HXK)
    | (have hgo := Bw5; clear hgo
       refine wmakeO rfl (.const (.int .i64 64)) rfl 64 rfl (by decide) ?_
       intro bz w6 lz o_z kk
       replace f_x := zfb f_x kk
       replace f_y := zfb f_y kk
       have f_z := o_z.bs
       have HB6 := Lib.hid (HA.out.stay _ _ (fun _ => False) _ _ _ _ HB5.out (Sam.of_below kk) (fun _ h => h.elim))
       have Bw6 := zbt HGS Bw5 kk
       clear Bw5 kk HB5 lz o_z))
  obtain ⟨x1, x2, F1, F2, E1, E2⟩ := cut32 f_x HXL.out
  obtain ⟨y1, y2, F3, F4, E3, E4⟩ := cut32 f_y HYL.out
  obtain ⟨z1, z2, F5, F6, E5, E6⟩ := cut32 f_z (by decide)
  have HE4 := Lib.hid (And.intro E1 (And.intro E6 (And.intro E3 E2)))
  have FX1 := Lib.hid F1
  have FX2 := Lib.hid F2
  have FY1 := Lib.hid F3
  have FZ2 := Lib.hid F6
  have FX := Lib.hid f_x
  have FY := Lib.hid f_y
  have FZ := Lib.hid f_z
  have BW6 := Lib.hid Bw6
  clear F1 F2 F3 F4 F5 F6 E1 E2 E3 E4 E5 E6 f_x f_y f_z Bw6
  have HE : Below w6.heap.size w6 w6.drew := (Below.refl _ _).drew
  have HB : w6.heap.size ≤ w6.drew.heap.size := Nat.le_refl _
  refine wp_region_linC (Below w6.heap.size) (fun w => Below.refl _ w) (fun _ _ _ h k => h.trans k) 19 18 (.rd 0 (.rd 2 (.rd 3 (.rd 5 (.rd 6 (.rd 8 (.rd 10 (.rd 11 (.rd 13 (.rd 14 (.rd 16 (.br 1 (.br 4 (.br 7 (.wr 9 (.wr 12 (.wr 15 (.wr 17 (.rd 18 .done))))) 9 (.wr 7 (.wr 12 (.wr 15 (.wr 17 (.rd 18 .done)))))) 9 (.wr 4 (.wr 7 (.wr 12 (.wr 15 (.wr 17 (.rd 18 .done))))))) 9 (.wr 1 (.wr 4 (.wr 7 (.wr 12 (.wr 15 (.wr 17 (.rd 18 .done))))))))))))))))))) (by kernel_rfl) (by kernel_rfl) (by decide) (by kernel_rfl) (fun d _ _ _ _ h => by cases d <;> exact h) (fun a w' => ∃ v_46 v_49 v_52 v_54 v_57 v_60 v_62, a = { tmps := #[.int .i64 a0, .int .i64 b0, .int .i64 p0, undef, undef, undef, .bool false, .pointer (some ⟨y, 0, none⟩), .int .i64 0, v_x, v_y, .slice (some ⟨bz, 0, none⟩) 64 64, v_62, undef, undef, undef, .tuple #[.pointer (some ⟨y, 0, none⟩), .int .i64 0], .tuple #[.pointer (some ⟨y, 0, none⟩), .int .i64 0], .pointer (some ⟨y, 0, none⟩), .int .i64 0, .int .i64 a0, .int .i64 ra, v_x, .int .i64 b0, .int .i64 rb, v_y, .int .i64 0, .bool false, .bool false, .pointer (some ⟨y, 0, none⟩), .bool false, .bool false, .bool false, .pointer (some ⟨y, 0, none⟩), v_x, .int .i64 0, .bool false, .bool false, .bool false, .pointer (some ⟨y, 0, none⟩), v_y, .int .i64 0, .bool false, .bool false, .slice (some ⟨bz, 0, none⟩) 64 64, .slice (some ⟨bz, 0, none⟩) 64 64, v_46, v_x, x1, v_49, .slice (some ⟨bz, 0, none⟩) 64 64, z2, v_52, v_x, v_54, v_y, y1, v_57, v_x, x2, v_60, v_y, v_62, undef, undef, undef, undef, undef, undef, undef, undef, undef, undef, undef, undef, undef, undef, undef, undef, undef, undef, undef, undef, undef, undef, undef, undef, undef, undef, undef], defers := [] } ∧ Bss w' v_62 [List.replicate 64 0, X.take 32 ++ (List.replicate 64 0).drop 32, X, Y.take 32 ++ X.drop 32, Y] ∧ Below w6.heap.size w6 w') ?_ ?_
  · skip
    refine lintz_pure 45 _ _ (.slice (some ⟨bz, 0, none⟩) 64 64) rfl rfl rfl rfl rfl (fun wx hx => by unfold mkOp; go_simp; all_goals (with_reducible rfl)) ?_
    simp only [Act.put, zA, zB, zC]
    refine lintz_pure 47 _ _ (v_x) rfl rfl rfl rfl rfl (fun wx hx => by unfold mkOp; go_simp; all_goals (with_reducible rfl)) ?_
    simp only [Act.put, zA, zB, zC]
    refine lintz_pure 48 _ _ (x1) rfl rfl rfl rfl rfl (fun wx hx => HE4.out.1 _ _ _ _ _ rfl rfl) ?_
    simp only [Act.put, zA, zB, zC]
    refine lintz_pure 50 _ _ (.slice (some ⟨bz, 0, none⟩) 64 64) rfl rfl rfl rfl rfl (fun wx hx => by unfold mkOp; go_simp; all_goals (with_reducible rfl)) ?_
    simp only [Act.put, zA, zB, zC]
    refine lintz_pure 51 _ _ (z2) rfl rfl rfl rfl rfl (fun wx hx => HE4.out.2.1 _ _ _ _ _ rfl rfl) ?_
    simp only [Act.put, zA, zB, zC]
    refine lintz_pure 53 _ _ (v_x) rfl rfl rfl rfl rfl (fun wx hx => by unfold mkOp; go_simp; all_goals (with_reducible rfl)) ?_
    simp only [Act.put, zA, zB, zC]
    refine lintz_pure 55 _ _ (v_y) rfl rfl rfl rfl rfl (fun wx hx => by unfold mkOp; go_simp; all_goals (with_reducible rfl)) ?_
    simp only [Act.put, zA, zB, zC]
    refine lintz_pure 56 _ _ (y1) rfl rfl rfl rfl rfl (fun wx hx => HE4.out.2.2.1 _ _ _ _ _ rfl rfl) ?_
    simp only [Act.put, zA, zB, zC]
    refine lintz_pure 58 _ _ (v_x) rfl rfl rfl rfl rfl (fun wx hx => by unfold mkOp; go_simp; all_goals (with_reducible rfl)) ?_
    simp only [Act.put, zA, zB, zC]
    refine lintz_pure 59 _ _ (x2) rfl rfl rfl rfl rfl (fun wx hx => HE4.out.2.2.2 _ _ _ _ _ rfl rfl) ?_
    simp only [Act.put, zA, zB, zC]
    refine lintz_pure 61 _ _ (v_y) rfl rfl rfl rfl rfl (fun wx hx => by unfold mkOp; go_simp; all_goals (with_reducible rfl)) ?_
    simp only [Act.put, zA, zB, zC]
    refine ⟨?_, ?_⟩
    · skip
      refine zLaid0 46 _ rfl rfl rfl rfl rfl HB ?_
      intro v_46 wz1 o_A hnw kk HB2
      replace HE := HE.trans (kk.mono HB)
      clear HB hnw kk
      have HB := HB2
      clear HB2
      simp only [Act.put, zA, zB, zC]
      refine ⟨?_, ?_⟩
      · skip
        refine zApp 49 _ _ _ v_46 x1 _ _ rfl rfl rfl rfl rfl o_A (FX1.out _ (HE.mono (Nat.le_refl _))) rfl rfl (by have := HXL.out; have := HYL.out; simp; omega) HB ?_
        intro v_49 wz2 oN gk hsm kk HB2
        clear o_A
        have o_A := oN
        replace HE := HE.trans kk
        clear HB gk hsm kk oN
        have HB := HB2
        clear HB2
        simp only [Act.put, zA, zB, zC]
        refine ⟨?_, ?_⟩
        · skip
          refine zApp 52 _ _ _ v_49 z2 _ _ rfl rfl rfl rfl rfl o_A (FZ2.out _ (HE.mono (Nat.le_refl _))) rfl rfl (by have := HXL.out; have := HYL.out; simp; omega) HB ?_
          intro v_52 wz3 oN gk hsm kk HB2
          clear o_A
          have o_A := oN
          replace HE := HE.trans kk
          clear HB gk hsm kk oN
          have HB := HB2
          clear HB2
          simp only [Act.put, zA, zB, zC]
          refine zLaid0 54 _ rfl rfl rfl rfl rfl HB ?_
          intro v_54 wz4 o_B hnw kk HB2
          have d_AB := Apart.new (Owns.vals o_A) hnw
          replace o_A := Owns.belowJ o_A kk
          replace HE := HE.trans (kk.mono HB)
          clear HB hnw kk
          have HB := HB2
          clear HB2
          simp only [Act.put, zA, zB, zC]
          refine zApp 57 _ _ _ v_54 y1 _ _ rfl rfl rfl rfl rfl o_B (FY1.out _ (HE.mono (Nat.le_refl _))) rfl rfl (by have := HXL.out; have := HYL.out; simp; omega) HB ?_
          intro v_57 wz5 oN gk hsm kk HB2
          have dN := Apart.app d_AB.symm hsm (Owns.vals o_A)
          replace o_A := owns_grow o_A gk d_AB.symm
          clear d_AB
          have d_AB := dN.symm
          clear dN
          clear o_B
          have o_B := oN
          replace HE := HE.trans kk
          clear HB gk hsm kk oN
          have HB := HB2
          clear HB2
          simp only [Act.put, zA, zB, zC]
          refine zApp 60 _ _ _ v_57 x2 _ _ rfl rfl rfl rfl rfl o_B (FX2.out _ (HE.mono (Nat.le_refl _))) rfl rfl (by have := HXL.out; have := HYL.out; simp; omega) HB ?_
          intro v_60 wz6 oN gk hsm kk HB2
          have dN := Apart.app d_AB.symm hsm (Owns.vals o_A)
          replace o_A := owns_grow o_A gk d_AB.symm
          clear d_AB
          have d_AB := dN.symm
          clear dN
          clear o_B
          have o_B := oN
          replace HE := HE.trans kk
          clear HB gk hsm kk oN
          have HB := HB2
          clear HB2
          simp only [Act.put, zA, zB, zC]
          refine zRows5 62 _ _ _ _ _ _ rfl rfl rfl rfl rfl (FZ.out.below HE (Nat.le_refl _)) (show Bs _ v_52 _ from o_A.bs) (FX.out.below HE (Nat.le_refl _)) (show Bs _ v_60 _ from o_B.bs) (FY.out.below HE (Nat.le_refl _)) rfl rfl rfl rfl rfl HB ?_
          intro v_62 wz7 F_r kk
          replace HE := HE.trans (kk.mono HB)
          clear HB kk
          simp only [Act.put, zA, zB, zC]
          refine lintz_pure 12 _ _ (v_62) rfl rfl rfl rfl rfl (fun wx hx => by unfold mkOp; go_simp; all_goals (with_reducible rfl)) ?_
          simp only [Act.put, zA, zB, zC]
          exact ⟨v_46, v_49, v_52, v_54, v_57, v_60, v_62, rfl, by simpa using F_r, HE⟩
        · skip
          refine zLaid0 54 _ rfl rfl rfl rfl rfl HB ?_
          intro v_54 wz8 o_B hnw kk HB2
          have d_AB := Apart.new (Owns.vals o_A) hnw
          replace o_A := Owns.belowJ o_A kk
          replace HE := HE.trans (kk.mono HB)
          clear HB hnw kk
          have HB := HB2
          clear HB2
          simp only [Act.put, zA, zB, zC]
          refine zApp 52 _ _ _ v_49 z2 _ _ rfl rfl rfl rfl rfl o_A (FZ2.out _ (HE.mono (Nat.le_refl _))) rfl rfl (by have := HXL.out; have := HYL.out; simp; omega) HB ?_
          intro v_52 wz9 oN gk hsm kk HB2
          have dN := Apart.app d_AB hsm (Owns.vals o_B)
          replace o_B := owns_grow o_B gk d_AB
          clear d_AB
          have d_AB := dN
          clear dN
          clear o_A
          have o_A := oN
          replace HE := HE.trans kk
          clear HB gk hsm kk oN
          have HB := HB2
          clear HB2
          simp only [Act.put, zA, zB, zC]
          refine zApp 57 _ _ _ v_54 y1 _ _ rfl rfl rfl rfl rfl o_B (FY1.out _ (HE.mono (Nat.le_refl _))) rfl rfl (by have := HXL.out; have := HYL.out; simp; omega) HB ?_
          intro v_57 wz10 oN gk hsm kk HB2
          have dN := Apart.app d_AB.symm hsm (Owns.vals o_A)
          replace o_A := owns_grow o_A gk d_AB.symm
          clear d_AB
          have d_AB := dN.symm
          clear dN
          clear o_B
          have o_B := oN
          replace HE := HE.trans kk
          clear HB gk hsm kk oN
          have HB := HB2
          clear HB2
          simp only [Act.put, zA, zB, zC]
          refine zApp 60 _ _ _ v_57 x2 _ _ rfl rfl rfl rfl rfl o_B (FX2.out _ (HE.mono (Nat.le_refl _))) rfl rfl (by have := HXL.out; have := HYL.out; simp; omega) HB ?_
          intro v_60 wz11 oN gk hsm kk HB2
          have dN := Apart.app d_AB.symm hsm (Owns.vals o_A)
          replace o_A := owns_grow o_A gk d_AB.symm
          clear d_AB
          have d_AB := dN.symm
          clear dN
          clear o_B
          have o_B := oN
          replace HE := HE.trans kk
          clear HB gk hsm kk oN
          have HB := HB2
          clear HB2
          simp only [Act.put, zA, zB, zC]
          refine zRows5 62 _ _ _ _ _ _ rfl rfl rfl rfl rfl (FZ.out.below HE (Nat.le_refl _)) (show Bs _ v_52 _ from o_A.bs) (FX.out.below HE (Nat.le_refl _)) (show Bs _ v_60 _ from o_B.bs) (FY.out.below HE (Nat.le_refl _)) rfl rfl rfl rfl rfl HB ?_
          intro v_62 wz12 F_r kk
          replace HE := HE.trans (kk.mono HB)
          clear HB kk
          simp only [Act.put, zA, zB, zC]
          refine lintz_pure 12 _ _ (v_62) rfl rfl rfl rfl rfl (fun wx hx => by unfold mkOp; go_simp; all_goals (with_reducible rfl)) ?_
          simp only [Act.put, zA, zB, zC]
          exact ⟨v_46, v_49, v_52, v_54, v_57, v_60, v_62, rfl, by simpa using F_r, HE⟩
      · skip
        refine zLaid0 54 _ rfl rfl rfl rfl rfl HB ?_
        intro v_54 wz13 o_B hnw kk HB2
        have d_AB := Apart.new (Owns.vals o_A) hnw
        replace o_A := Owns.belowJ o_A kk
        replace HE := HE.trans (kk.mono HB)
        clear HB hnw kk
        have HB := HB2
        clear HB2
        simp only [Act.put, zA, zB, zC]
        refine zApp 49 _ _ _ v_46 x1 _ _ rfl rfl rfl rfl rfl o_A (FX1.out _ (HE.mono (Nat.le_refl _))) rfl rfl (by have := HXL.out; have := HYL.out; simp; omega) HB ?_
        intro v_49 wz14 oN gk hsm kk HB2
        have dN := Apart.app d_AB hsm (Owns.vals o_B)
        replace o_B := owns_grow o_B gk d_AB
        clear d_AB
        have d_AB := dN
        clear dN
        clear o_A
        have o_A := oN
        replace HE := HE.trans kk
        clear HB gk hsm kk oN
        have HB := HB2
        clear HB2
        simp only [Act.put, zA, zB, zC]
        refine zApp 52 _ _ _ v_49 z2 _ _ rfl rfl rfl rfl rfl o_A (FZ2.out _ (HE.mono (Nat.le_refl _))) rfl rfl (by have := HXL.out; have := HYL.out; simp; omega) HB ?_
        intro v_52 wz15 oN gk hsm kk HB2
        have dN := Apart.app d_AB hsm (Owns.vals o_B)
        replace o_B := owns_grow o_B gk d_AB
        clear d_AB
        have d_AB := dN
        clear dN
        clear o_A
        have o_A := oN
        replace HE := HE.trans kk
        clear HB gk hsm kk oN
        have HB := HB2
        clear HB2
        simp only [Act.put, zA, zB, zC]
        refine zApp 57 _ _ _ v_54 y1 _ _ rfl rfl rfl rfl rfl o_B (FY1.out _ (HE.mono (Nat.le_refl _))) rfl rfl (by have := HXL.out; have := HYL.out; simp; omega) HB ?_
        intro v_57 wz16 oN gk hsm kk HB2
        have dN := Apart.app d_AB.symm hsm (Owns.vals o_A)
        replace o_A := owns_grow o_A gk d_AB.symm
        clear d_AB
        have d_AB := dN.symm
        clear dN
        clear o_B
        have o_B := oN
        replace HE := HE.trans kk
        clear HB gk hsm kk oN
        have HB := HB2
        clear HB2
        simp only [Act.put, zA, zB, zC]
        refine zApp 60 _ _ _ v_57 x2 _ _ rfl rfl rfl rfl rfl o_B (FX2.out _ (HE.mono (Nat.le_refl _))) rfl rfl (by have := HXL.out; have := HYL.out; simp; omega) HB ?_
        intro v_60 wz17 oN gk hsm kk HB2
        have dN := Apart.app d_AB.symm hsm (Owns.vals o_A)
        replace o_A := owns_grow o_A gk d_AB.symm
        clear d_AB
        have d_AB := dN.symm
        clear dN
        clear o_B
        have o_B := oN
        replace HE := HE.trans kk
        clear HB gk hsm kk oN
        have HB := HB2
        clear HB2
        simp only [Act.put, zA, zB, zC]
        refine zRows5 62 _ _ _ _ _ _ rfl rfl rfl rfl rfl (FZ.out.below HE (Nat.le_refl _)) (show Bs _ v_52 _ from o_A.bs) (FX.out.below HE (Nat.le_refl _)) (show Bs _ v_60 _ from o_B.bs) (FY.out.below HE (Nat.le_refl _)) rfl rfl rfl rfl rfl HB ?_
        intro v_62 wz18 F_r kk
        replace HE := HE.trans (kk.mono HB)
        clear HB kk
        simp only [Act.put, zA, zB, zC]
        refine lintz_pure 12 _ _ (v_62) rfl rfl rfl rfl rfl (fun wx hx => by unfold mkOp; go_simp; all_goals (with_reducible rfl)) ?_
        simp only [Act.put, zA, zB, zC]
        exact ⟨v_46, v_49, v_52, v_54, v_57, v_60, v_62, rfl, by simpa using F_r, HE⟩
    · skip
      refine zLaid0 54 _ rfl rfl rfl rfl rfl HB ?_
      intro v_54 wz19 o_B hnw kk HB2
      replace HE := HE.trans (kk.mono HB)
      clear HB hnw kk
      have HB := HB2
      clear HB2
      simp only [Act.put, zA, zB, zC]
      refine zLaid0 46 _ rfl rfl rfl rfl rfl HB ?_
      intro v_46 wz20 o_A hnw kk HB2
      have d_BA := Apart.new (Owns.vals o_B) hnw
      have d_AB := d_BA.symm
      replace o_B := Owns.belowJ o_B kk
      clear d_BA
      replace HE := HE.trans (kk.mono HB)
      clear HB hnw kk
      have HB := HB2
      clear HB2
      simp only [Act.put, zA, zB, zC]
      refine zApp 49 _ _ _ v_46 x1 _ _ rfl rfl rfl rfl rfl o_A (FX1.out _ (HE.mono (Nat.le_refl _))) rfl rfl (by have := HXL.out; have := HYL.out; simp; omega) HB ?_
      intro v_49 wz21 oN gk hsm kk HB2
      have dN := Apart.app d_AB hsm (Owns.vals o_B)
      replace o_B := owns_grow o_B gk d_AB
      clear d_AB
      have d_AB := dN
      clear dN
      clear o_A
      have o_A := oN
      replace HE := HE.trans kk
      clear HB gk hsm kk oN
      have HB := HB2
      clear HB2
      simp only [Act.put, zA, zB, zC]
      refine zApp 52 _ _ _ v_49 z2 _ _ rfl rfl rfl rfl rfl o_A (FZ2.out _ (HE.mono (Nat.le_refl _))) rfl rfl (by have := HXL.out; have := HYL.out; simp; omega) HB ?_
      intro v_52 wz22 oN gk hsm kk HB2
      have dN := Apart.app d_AB hsm (Owns.vals o_B)
      replace o_B := owns_grow o_B gk d_AB
      clear d_AB
      have d_AB := dN
      clear dN
      clear o_A
      have o_A := oN
      replace HE := HE.trans kk
      clear HB gk hsm kk oN
      have HB := HB2
      clear HB2
      simp only [Act.put, zA, zB, zC]
      refine zApp 57 _ _ _ v_54 y1 _ _ rfl rfl rfl rfl rfl o_B (FY1.out _ (HE.mono (Nat.le_refl _))) rfl rfl (by have := HXL.out; have := HYL.out; simp; omega) HB ?_
      intro v_57 wz23 oN gk hsm kk HB2
      have dN := Apart.app d_AB.symm hsm (Owns.vals o_A)
      replace o_A := owns_grow o_A gk d_AB.symm
      clear d_AB
      have d_AB := dN.symm
      clear dN
      clear o_B
      have o_B := oN
      replace HE := HE.trans kk
      clear HB gk hsm kk oN
      have HB := HB2
      clear HB2
      simp only [Act.put, zA, zB, zC]
      refine zApp 60 _ _ _ v_57 x2 _ _ rfl rfl rfl rfl rfl o_B (FX2.out _ (HE.mono (Nat.le_refl _))) rfl rfl (by have := HXL.out; have := HYL.out; simp; omega) HB ?_
      intro v_60 wz24 oN gk hsm kk HB2
      have dN := Apart.app d_AB.symm hsm (Owns.vals o_A)
      replace o_A := owns_grow o_A gk d_AB.symm
      clear d_AB
      have d_AB := dN.symm
      clear dN
      clear o_B
      have o_B := oN
      replace HE := HE.trans kk
      clear HB gk hsm kk oN
      have HB := HB2
      clear HB2
      simp only [Act.put, zA, zB, zC]
      refine zRows5 62 _ _ _ _ _ _ rfl rfl rfl rfl rfl (FZ.out.below HE (Nat.le_refl _)) (show Bs _ v_52 _ from o_A.bs) (FX.out.below HE (Nat.le_refl _)) (show Bs _ v_60 _ from o_B.bs) (FY.out.below HE (Nat.le_refl _)) rfl rfl rfl rfl rfl HB ?_
      intro v_62 wz25 F_r kk
      replace HE := HE.trans (kk.mono HB)
      clear HB kk
      simp only [Act.put, zA, zB, zC]
      refine lintz_pure 12 _ _ (v_62) rfl rfl rfl rfl rfl (fun wx hx => by unfold mkOp; go_simp; all_goals (with_reducible rfl)) ?_
      simp only [Act.put, zA, zB, zC]
      exact ⟨v_46, v_49, v_52, v_54, v_57, v_60, v_62, rfl, by simpa using F_r, HE⟩
  · rintro a w7 ⟨v_46, v_49, v_52, v_54, v_57, v_60, v_62, rfl, F_r, kk⟩
    have HB7 := Lib.hid (HA.out.stay _ _ (fun _ => False) _ _ _ _ HB6.out (Sam.of_below kk) (fun _ h => h.elim))
    obtain ⟨q, hq⟩ : ∃ q : Nat, p0 % 5 = (q : Int) := ⟨(p0 % 5).toNat, by omega⟩
    have HQ : Hid (p0 % 5 = (q : Int) ∧ q < 5) := Lib.hid (by omega)
    have HCR := Lib.hid HW.out.2.2.2
    rw [hq, Int.toNat_natCast] at HCR
    obtain ⟨LST, hLS⟩ : ∃ l : List (List UInt8), l = [List.replicate 64 0, X.take 32 ++ (List.replicate 64 0).drop 32, X, Y.take 32 ++ X.drop 32, Y] := ⟨_, rfl⟩
    have HLS5 : Hid (LST.length = 5) := Lib.hid (by rw [hLS]; rfl)
    rw [← hLS] at F_r HCR
    have BW7 := BW6.out.trans (kk.mono BW6.out.size)
    obtain ⟨bw, ow, cw, rfl, _, _, hbl, hcl⟩ := F_r.open_cons (by rw [HLS5.out]; decide)
    obtain ⟨u, hcu, hu⟩ := hcl q (by rw [HLS5.out]; exact HQ.out.2)
    have HGE : Hid (LST.getD q [] = LST[q]'(by rw [HLS5.out]; exact HQ.out.2)) := Lib.hid (by rw [List.getD_eq_getElem?_getD, List.getElem?_eq_getElem (by rw [HLS5.out]; exact HQ.out.2)]; rfl)
    rw [← HGE.out, ← HCR.out] at hu
    obtain ⟨CR, hCR⟩ : ∃ c, c = crG S2 1 (fun _ => p0) 0 := ⟨_, rfl⟩
    have HCRR := Lib.hid hCR
    rw [← hCR] at hu
    have HU := Lib.hid hu
    have HCU := Lib.hid hcu
    have HBL := Lib.hid hbl
    rw [HLS5.out]
    have HN1 := Lib.hid HW.out.2.2.1
    clear hq hLS F_r kk hcl hu hcu hbl hCR HCR HGE
    go_wp2_with (first
      | (have hgo := BW7; clear hgo
         refine wints1 rfl p0 (.tmp 64) rfl rfl ?_
         intro v_p w8 f_p kk
         have HB8 := Lib.hid (HA.out.stay _ _ (fun _ => False) _ _ _ _ HB7.out (Sam.of_below kk) (fun _ h => h.elim))
         have HU8 := Lib.hid (zfb HU.out kk)
         have HC8 : Hid (w8.cell? ⟨bw, ow + q, none⟩ = some u) := Lib.hid ((kk.cell (p := ⟨bw, ow + q, none⟩) HBL.out).trans HCU.out)
         have L8 := Lib.hid (Nat.lt_of_lt_of_le HBL.out kk.size)
         have Bw8 := zbt HGS BW7 kk
         clear BW7 kk HB7 HU HCU HBL)
      | (have hgo := Bw8; clear hgo
         go_at_call 13
         refine (HA.out.crash T5 D5 _ y S2 2 1 (fun _ => p0) v_p HB8.out HOK2.out (by decide) f_p (by decide) (fun _ _ => HBP.out.1)).mono ?_
         rintro e w9 ⟨y9, T9, D9, rfl, hb9, kk, t9, d9⟩
         have HB9 := Lib.hid hb9
         have HU9 := Lib.hid (zfb HU8.out kk)
         have HC9 : Hid (w9.cell? ⟨bw, ow + q, none⟩ = some u) := Lib.hid ((kk.cell (p := ⟨bw, ow + q, none⟩) L8.out).trans HC8.out)
         have L9 := Lib.hid (Nat.lt_of_lt_of_le L8.out kk.size)
         have Bw9 := zbt HGS Bw8 kk
         clear Bw8 kk hb9 t9 d9 HB8 HU8 HC8 L8 f_p)
      | (have hgo := Bw9; clear hgo
         go_at_call 16
         refine (read_to HA.out T9 D9 _ y9 _ 0 0 HB9.out (crI_ok HOK2.out 1 (fun _ => p0)) (by decide) (show 0 < S2.n by rw [HN1.out]; decide)).mono ?_
         rintro e w10 ⟨v_r, rfl, f_r, kk⟩
         rw [crI_now S2 1 _ 0 (by rw [HN1.out]; decide), ← HCRR.out] at f_r
         have f_u := zfb HU9.out kk
         have hcu : w10.cell? ⟨bw, ow + q, none⟩ = some u := (kk.cell (p := ⟨bw, ow + q, none⟩) L9.out).trans HC9.out
         have HC10 := Lib.hid (And.intro hcu (Nat.lt_of_lt_of_le L9.out kk.size))
         have Bw10 := zbt HGS Bw9 kk
         clear Bw9 kk HB9 HU9 HC9 L9 hcu))
    replace f_r := f_r.drew
    replace f_u := f_u.drew
    have Bw11 := Bw10.drew
    clear Bw10
    refine wp_region_lint (.rd 0 (.rd 1 (.rd 2 (.rd 3 (.rd 4 (.rd 5 (.rd 6 (.wr 7 (.rd 8 (.rd 9 (.rd 10 (.rd 11 (.rd 12 (.rd 13 (.wr 14 (.rd 15 (.rd 16 .done))))))))))))))))) (by kernel_rfl) (by kernel_rfl) (by decide) (by kernel_rfl) (fun d _ _ _ _ h => by cases d <;> exact h) ?_
    refine lint_pure 74 _ _ (.int .i64 0) rfl rfl rfl rfl rfl (fun wx hx => by unfold mkOp; go_simp; all_goals (with_reducible rfl)) ?_
    simp only [Act.put, zA, zB, zC]
    refine lint_pure 75 _ _ (.bool true) rfl rfl rfl rfl rfl (fun wx hx => by unfold mkOp; go_simp; all_goals (with_reducible rfl)) ?_
    simp only [Act.put, zA, zB, zC]
    refine lint_pure 76 _ _ (.bool true) rfl rfl rfl rfl rfl (fun wx hx => by unfold mkOp; go_simp; all_goals (with_reducible rfl)) ?_
    simp only [Act.put, zA, zB, zC]
    refine lint_pure 77 _ _ (v_r) rfl rfl rfl rfl rfl (fun wx hx => by unfold mkOp; go_simp; all_goals (with_reducible rfl)) ?_
    simp only [Act.put, zA, zB, zC]
    refine lint_conv 78 (.tmp 77) _ _ rfl rfl rfl rfl rfl f_r ?_
    simp only [Act.put, zA, zB, zC]
    refine lint_pure 79 _ _ (.slice (some ⟨bw, ow, none⟩) 5 cw) rfl rfl rfl rfl rfl (fun wx hx => by unfold mkOp; go_simp; all_goals (with_reducible rfl)) ?_
    simp only [Act.put, zA, zB, zC]
    refine lint_pure 80 _ _ (.int .i64 p0) rfl rfl rfl rfl rfl (fun wx hx => by unfold mkOp; go_simp; all_goals (with_reducible rfl)) ?_
    simp only [Act.put, zA, zB, zC]
    refine stp_fn 81 24 _ _ _ (round5_to p0 q _ HBP.out.2 HQ.out.1) rfl rfl rfl rfl Try.func24 (by kernel_rfl) (by kernel_rfl) (by go_simp) ?_
    rintro e wq81 ⟨rfl, kk⟩
    refine ⟨_, rfl, kk, ?_⟩
    have hqI : 0 ≤ (q : Int) ∧ (q : Int) < 5 := (by have := HQ.out.2; omega)
    have HCX : Hid (wq81.cell? ⟨bw, ow + q, none⟩ = some u ∧ bw < wq81.heap.size) := Lib.hid ⟨(kk.cell (p := ⟨bw, ow + q, none⟩) HC10.out.2).trans HC10.out.1, Nat.lt_of_lt_of_le HC10.out.2 kk.size⟩
    replace f_r := zfb f_r kk
    replace f_u := zfb f_u kk
    have Bw12 := zbt HGS Bw11 kk
    clear Bw11 kk
    simp only [Act.put, zA, zB, zC]
    refine lint_pure 82 _ _ (.pointer (some ⟨bw, ow + q, none⟩)) rfl rfl rfl rfl rfl (fun wx hx => by unfold mkOp; go_simp; all_goals (with_reducible rfl)) ?_
    simp only [Act.put, zA, zB, zC]
    refine lint_pure 83 _ _ (u) rfl rfl rfl rfl rfl (fun wx hx => exec_load_cell _ _ _ _ rfl (by kernel_rfl) ((hx.cell (p := ⟨bw, ow + q, none⟩) HCX.out.2).trans HCX.out.1)) ?_
    simp only [Act.put, zA, zB, zC]
    refine lint_conv 84 (.tmp 83) _ _ rfl rfl rfl rfl rfl f_u ?_
    simp only [Act.put, zA, zB, zC]
    refine lint_pure 85 _ _ (.bool true) rfl rfl rfl rfl rfl (fun wx hx => exec_strE _ _ _ _ (decide_eq_true rfl) rfl rfl) ?_
    simp only [Act.put, zA, zB, zC]
    refine lint_pure 86 _ _ (.bool true) rfl rfl rfl rfl rfl (fun wx hx => by unfold mkOp; go_simp; all_goals (with_reducible rfl)) ?_
    simp only [Act.put, zA, zB, zC]
    refine lint_pure 87 _ _ (.bool true) rfl rfl rfl rfl rfl (fun wx hx => by unfold mkOp; go_simp; all_goals (with_reducible rfl)) ?_
    simp only [Act.put, zA, zB, zC]
    refine stp_fn 88 9 _ _ _ (awake15_api HA.out _) rfl rfl rfl rfl Try.func9 (by kernel_rfl) (by kernel_rfl) (by go_simp) ?_
    rintro e wq88 ⟨rfl, kk⟩
    refine ⟨_, rfl, kk, ?_⟩
    replace f_r := zfb f_r kk
    replace f_u := zfb f_u kk
    have Bw13 := zbt HGS Bw12 kk
    clear Bw12 kk
    simp only [Act.put, zA, zB, zC]
    refine lint_pure 89 _ _ (.bool true) rfl rfl rfl rfl rfl (fun wx hx => by unfold mkOp; go_simp; all_goals (with_reducible rfl)) ?_
    simp only [Act.put, zA, zB, zC]
    refine lint_pure 6 _ _ (.bool true) rfl rfl rfl rfl rfl (fun wx hx => by unfold mkOp; go_simp; all_goals (with_reducible rfl)) ?_
    simp only [Act.put, zA, zB, zC]
    refine lint_end ?_
    go_wp2
    go_ret
    exact ⟨rfl, Bw13⟩
theorem blockTears_api (w : World) (a0 : Int) (ha : (Lit.int .i64 a0).wf = true) (b0 : Int) (hb : (Lit.int .i64 b0).wf = true) (p0 : Int) (hp : (Lit.int .i64 p0).wf = true) : Calls Try.prog 8 #[.int .i64 a0, .int .i64 b0, .int .i64 p0] w fun e w' => e = .returned (.bool true) ∧ Below w.heap.size w w' := tears_in A w a0 b0 p0 ha hb hp
end
end Go.Proofs.Ytpilfjdhpahphaa
