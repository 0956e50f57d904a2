/- Texts joined: what they are for stands ahead of each. -/
import Derived.Test.YtonhpmaiagbheaaGreatMV1
import Derived.BigRegion
import Derived.Shelf.Spec.BitsCarry
import Derived.Lib.Mul64
import Derived.Shelf.Bits.Mul64
set_option linter.unusedSimpArgs false
set_option linter.unusedVariables false

namespace Go.Proofs.YtonhpmaiagbheaaGreat
open Go.RowKit Go.Deep
section
variable {P : Program} {ops : Array Oper} {Q : Exit → Act → World → Prop} {E : World → World → Prop}
def listM : List Nat → Nat → List Bool → Array Bool → Array Bool
 | [], _, _, l => l
 | i :: r, p, m, l => listM r (p + 1) m (if m.getD p false = true then l.setIfInBounds i true else l)
def upd (g : Nat → Value) (p : Nat) (v : Value) : Nat → Value := fun q => if q = p then v else g q
theorem put_comm (a : Act) (d e : Nat) (v u : Value) (h : d ≠ e) : (a.put (some d) v).put (some e) u = (a.put (some e) u).put (some d) v := by
 unfold Act.put
 simp only [Array.setIfInBounds_comm _ _ h]
def falses : List Bool → Nat
 | [] => 0
 | b :: m => (if b then 0 else 1) + falses m
theorem falses_set : ∀ (m : List Bool) (p : Nat), p < m.length → m.getD p true = false → falses (m.set p true) + 1 = falses m
 | [], _, h, _ => by simp at h
 | b :: m, 0, _, h => by
   have hb : b = false := h
   subst hb
   simp [falses]
   omega
 | b :: m, p + 1, h, h2 => by
   have ih := falses_set m p (by simp only [List.length_cons] at h; omega) h2
   simp only [List.set_cons_succ, falses]
   omega
theorem falses_rep : ∀ n, falses (List.replicate n false) = n
 | 0 => rfl
 | n + 1 => by rw [List.replicate_succ, falses, falses_rep n]; simp; omega
theorem all_rep : ∀ (m : List Bool), m.all id = true → m = List.replicate m.length true
 | [], _ => rfl
 | b :: m, h => by
   simp only [List.all_cons, Bool.and_eq_true, id] at h
   rw [List.length_cons, List.replicate_succ, ← all_rep m h.2, h.1]
theorem listM_none : ∀ (S : List Nat) (p n : Nat) (l : Array Bool), listM S p (List.replicate n false) l = l
 | [], _, _, _ => rfl
 | d :: r, p, n, l => by
   unfold listM
   rw [show (List.replicate n false).getD p false = false by
     rw [List.getD_eq_getElem?_getD, List.getElem?_replicate]; split <;> rfl, if_neg (by decide)]
   exact listM_none r (p + 1) n l
def JP (B : Nat) (cs : Nat → Option Value) (ty : TypeId) (k : Nat) (f : Nat → Value) (m : List Bool) (g : Nat → Value) (w : World) : Prop :=
 ∀ p, m.getD p false = true → (∀ v, cs p = some v → g p = v) ∧ (cs p = none → ∃ b, g p = .pointer (some ⟨b, 0, none⟩) ∧ B ≤ b ∧ w.rowIs b ty k f ∧ ∀ q, q ≠ p → m.getD q false = true → cs q = none → g q ≠ g p)
theorem getD_set_ne (m : List Bool) (p q : Nat) (h : q ≠ p) : (m.set p true).getD q false = m.getD q false := by
 rw [List.getD_eq_getElem?_getD, List.getD_eq_getElem?_getD, List.getElem?_set_ne (by omega)]
theorem upd_self (g : Nat → Value) (p : Nat) (v : Value) : upd g p v p = v := by simp [upd]
theorem upd_ne (g : Nat → Value) (p q : Nat) (v : Value) (h : q ≠ p) : upd g p v q = g q := by simp [upd, h]
theorem JP.start {B : Nat} {cs : Nat → Option Value} {ty : TypeId} {k : Nat} {f : Nat → Value} {n : Nat} {g : Nat → Value} {w : World} : JP B cs ty k f (List.replicate n false) g w := fun p h => by
 rw [List.getD_eq_getElem?_getD, List.getElem?_replicate] at h
 split at h <;> cases h
theorem JP.call {B : Nat} {cs : Nat → Option Value} {ty : TypeId} {k : Nat} {f : Nat → Value} {m : List Bool} {g : Nat → Value} {w w' : World} {p : Nat} {v : Value} (h : JP B cs ty k f m g w) (hb : Below w.heap.size w w') (hc : cs p = some v) :
   JP B cs ty k f (m.set p true) (upd g p v) w' := fun q hq => by
 by_cases e : q = p
 · subst e
   refine ⟨fun u hu => ?_, fun hn => ?_⟩
   · rw [upd_self]
     rw [hc] at hu
     exact Option.some.inj hu
   · rw [hc] at hn
     cases hn
 · rw [getD_set_ne m p q e] at hq
   obtain ⟨h1, h2⟩ := h q hq
   rw [upd_ne g p q v e]
   refine ⟨h1, fun hn => ?_⟩
   obtain ⟨b, k1, k2, k3, k4⟩ := h2 hn
   refine ⟨b, k1, k2, k3.of_block (hb.block _ k3.lt), fun r hr1 hr2 hr3 => ?_⟩
   by_cases e2 : r = p
   · subst e2
     rw [hc] at hr3
     cases hr3
   · rw [upd_ne g p r v e2]
     rw [getD_set_ne m p r e2] at hr2
     exact k4 r hr1 hr2 hr3
theorem JP.alloc {B : Nat} {cs : Nat → Option Value} {ty : TypeId} {k : Nat} {f : Nat → Value} {m : List Bool} {g : Nat → Value} {w : World} {p : Nat} (h : JP B cs ty k f m g w) (hB : B ≤ w.heap.size) (hc : cs p = none)
   (hr : (w.alloc (.cells (arrOf k f) ty)).rowIs w.heap.size ty k f) : JP B cs ty k f (m.set p true) (upd g p (.pointer (some ⟨w.heap.size, 0, none⟩))) (w.alloc (.cells (arrOf k f) ty)) := by
 have hold : ∀ q, q ≠ p → m.getD q false = true → cs q = none → ∃ b, g q = .pointer (some ⟨b, 0, none⟩) ∧ b < w.heap.size := fun q _ hq hn => by
   obtain ⟨b, k1, _, k3, _⟩ := (h q hq).2 hn
   exact ⟨b, k1, k3.lt⟩
 have hne : ∀ b, b < w.heap.size → (Value.pointer (some ⟨b, 0, none⟩)) ≠ .pointer (some ⟨w.heap.size, 0, none⟩) := fun b hb e => by
   have e1 : b = w.heap.size := by
     injection e with e
     injection e with e
     injection e
   omega
 intro q hq
 by_cases e : q = p
 · subst e
   refine ⟨fun u hu => (by rw [hc] at hu; cases hu), fun _ => ⟨w.heap.size, upd_self _ _ _, hB, hr, fun r hr1 hr2 hr3 => ?_⟩⟩
   rw [upd_self, upd_ne _ _ _ _ hr1]
   rw [getD_set_ne _ _ _ hr1] at hr2
   obtain ⟨b, k1, k2⟩ := hold r hr1 hr2 hr3
   rw [k1]
   exact hne b k2
 · rw [getD_set_ne m p q e] at hq
   obtain ⟨h1, h2⟩ := h q hq
   rw [upd_ne _ _ _ _ e]
   refine ⟨h1, fun hn => ?_⟩
   obtain ⟨b, k1, k2, k3, k4⟩ := h2 hn
   refine ⟨b, k1, k2, World.rowIs.alloc k3 _, fun r hr1 hr2 hr3 => ?_⟩
   by_cases e2 : r = p
   · subst e2
     rw [upd_self, k1]
     exact fun e => hne b k3.lt e.symm
   · rw [upd_ne _ _ _ _ e2]
     rw [getD_set_ne m p r e2] at hr2
     exact k4 r hr1 hr2 hr3
theorem JP.row {B : Nat} {cs : Nat → Option Value} {ty : TypeId} {k : Nat} {f : Nat → Value} {n : Nat} {g : Nat → Value} {w : World} (h : JP B cs ty k f (List.replicate n true) g w) (p : Nat) (hp : p < n) (hc : cs p = none) :
   ∃ b, g p = .pointer (some ⟨b, 0, none⟩) ∧ B ≤ b ∧ w.rowIs b ty k f ∧ ∀ q, q ≠ p → q < n → cs q = none → g q ≠ g p := by
 have ht : ∀ q, q < n → (List.replicate n true).getD q false = true := fun q hq => by
   rw [List.getD_eq_getElem?_getD, List.getElem?_replicate, if_pos hq]
   rfl
 obtain ⟨b, h1, h2, h3, h4⟩ := (h p (ht p hp)).2 hc
 exact ⟨b, h1, h2, h3, fun q hq1 hq2 hq3 => h4 q hq1 (ht q hq2) hq3⟩
theorem JP.val {B : Nat} {cs : Nat → Option Value} {ty : TypeId} {k : Nat} {f : Nat → Value} {n : Nat} {g : Nat → Value} {w : World} (h : JP B cs ty k f (List.replicate n true) g w) (p : Nat) (hp : p < n) {v : Value} (hc : cs p = some v) : g p = v := by
 refine (h p ?_).1 v hc
 rw [List.getD_eq_getElem?_getD, List.getElem?_replicate, if_pos hp]
 rfl
theorem ptr_ne {b c : Nat} (h : (Value.pointer (some ⟨b, 0, none⟩)) ≠ .pointer (some ⟨c, 0, none⟩)) : b ≠ c := fun e => h (by rw [e])
end
end Go.Proofs.YtonhpmaiagbheaaGreat
namespace Go.Proofs.YtonhpmaiagbheaaGreat
open Go.RowKit Go.Deep
section
variable {P : Program} {ops : Array Oper} {Q : Exit → Act → World → Prop} {E : World → World → Prop}
def putO : List (Option Nat) → Nat → List Bool → (Nat → Value) → Act → Act
 | [], _, _, _, a => a
 | d :: r, p, m, g, a => putO r (p + 1) m g (if m.getD p false = true then a.put d (g p) else a)
def putA : List (Option Nat) → Nat → (Nat → Value) → Act → Act
 | [], _, _, a => a
 | d :: r, p, g, a => putA r (p + 1) g (a.put d (g p))
theorem putO_true : ∀ (ds : List (Option Nat)) (p k : Nat) (g : Nat → Value) (a : Act), Nat.ble (p + ds.length) k = true → putO ds p (List.replicate k true) g a = putA ds p g a
 | [], _, _, _, _, _ => rfl
 | d :: r, p, k, g, a, h => by
   have h' := Nat.le_of_ble_eq_true h
   rw [List.length_cons] at h'
   unfold putO putA
   have e : (List.replicate k true).getD p false = true := by
     rw [List.getD_eq_getElem?_getD, List.getElem?_replicate, if_pos (by omega)]
     rfl
   rw [if_pos e]
   exact putO_true r (p + 1) k g _ (Nat.ble_eq_true_of_le (by omega))
def apartO : List (Option Nat) → Bool
 | [] => true
 | d :: r => (d.all fun x => !(r.contains (some x))) && apartO r
theorem putO_congr : ∀ (ds : List (Option Nat)) (p : Nat) (m m' : List Bool) (g g' : Nat → Value) (a : Act), (∀ q, p ≤ q → m.getD q false = m'.getD q false ∧ g q = g' q) → putO ds p m g a = putO ds p m' g' a
 | [], _, _, _, _, _, _, _ => rfl
 | d :: r, p, m, m', g, g', a, h => by
   unfold putO
   obtain ⟨h1, h2⟩ := h p (Nat.le_refl _)
   rw [h1, h2]
   exact putO_congr r (p + 1) m m' g g' _ fun q hq => h q (by omega)
theorem put_putO : ∀ (ds : List (Option Nat)) (p : Nat) (m : List Bool) (g : Nat → Value) (a : Act) (d : Nat) (v : Value), ds.contains (some d) = false → (putO ds p m g a).put (some d) v = putO ds p m g (a.put (some d) v)
 | [], _, _, _, _, _, _, _ => rfl
 | e :: r, p, m, g, a, d, v, h => by
   simp only [List.contains_cons, Bool.or_eq_false_iff, beq_eq_false_iff_ne] at h
   unfold putO
   rw [put_putO r (p + 1) m g _ d v h.2]
   congr 1
   split
   · cases e with
     | none => rfl
     | some e => exact put_comm _ _ _ _ _ (fun he => h.1 (by rw [he]))
   · rfl
theorem putO_set : ∀ (ds : List (Option Nat)) (p : Nat) (m : List Bool) (g : Nat → Value) (a : Act) (k : Nat) (v : Value), apartO ds = true → k < ds.length → p + k < m.length → m.getD (p + k) true = false →
   (putO ds p m g a).put (ds.getD k none) v = putO ds p (m.set (p + k) true) (upd g (p + k) v) a
 | [], _, _, _, _, _, _, _, h, _, _ => by simp at h
 | d :: r, p, m, g, a, 0, v, hnd, _, hl, hm => by
   simp only [apartO, Bool.and_eq_true] at hnd
   have hm2 : m.getD p false = false := by
     rw [Nat.add_zero] at hm hl
     rw [List.getD_eq_getElem?_getD, List.getElem?_eq_getElem hl] at hm ⊢
     exact hm
   have hm3 : (m.set (p + 0) true).getD p false = true := by
     rw [Nat.add_zero] at hl ⊢
     rw [List.getD_eq_getElem?_getD, List.getElem?_set_self hl]
     rfl
   show (putO (d :: r) p m g a).put d v = _
   unfold putO
   rw [hm2, hm3, if_neg (by decide), if_pos rfl]
   have hr : (putO r (p + 1) m g a).put d v = putO r (p + 1) m g (a.put d v) := by
     cases d with
     | none => rfl
     | some d =>
       refine put_putO r (p + 1) m g a d v ?_
       have := hnd.1
       simp only [Option.all_some, Bool.not_eq_true'] at this
       exact this
   rw [hr, show upd g (p + 0) v p = v by simp [upd]]
   refine putO_congr r (p + 1) _ _ _ _ _ fun q hq => ⟨?_, ?_⟩
   · rw [List.getD_eq_getElem?_getD, List.getD_eq_getElem?_getD, List.getElem?_set_ne (by omega)]
   · unfold upd
     rw [if_neg (by omega)]
 | d :: r, p, m, g, a, k + 1, v, hnd, hk, hl, hm => by
   simp only [apartO, Bool.and_eq_true] at hnd
   have e : p + (k + 1) = p + 1 + k := by omega
   rw [e] at hm hl
   have hk2 : k < r.length := by simp only [List.length_cons] at hk; omega
   have h := putO_set r (p + 1) m g (if m.getD p false = true then a.put d (g p) else a) k v hnd.2 hk2 hl hm
   show (putO r (p + 1) m g (if m.getD p false = true then a.put d (g p) else a)).put (r.getD k none) v = putO r (p + 1) (m.set (p + (k + 1)) true) (upd g (p + (k + 1)) v) (if (m.set (p + (k + 1)) true).getD p false = true then a.put d (upd g (p + (k + 1)) v p) else a)
   rw [h, e, show upd g (p + 1 + k) v p = g p by unfold upd; rw [if_neg (by omega)], show (m.set (p + 1 + k) true).getD p false = m.getD p false by
     rw [List.getD_eq_getElem?_getD, List.getD_eq_getElem?_getD, List.getElem?_set_ne (by omega)]]
theorem putO_none : ∀ (ds : List (Option Nat)) (p n : Nat) (g : Nat → Value) (a : Act), putO ds p (List.replicate n false) g a = a
 | [], _, _, _, _ => rfl
 | d :: r, p, n, g, a => by
   unfold putO
   rw [show (List.replicate n false).getD p false = false by
     rw [List.getD_eq_getElem?_getD, List.getElem?_replicate]; split <;> rfl, if_neg (by decide)]
   exact putO_none r (p + 1) n g a
theorem eval_put_ne (a : Act) (e : Option Nat) (v : Value) (d : Nat) (h : e ≠ some d) : (a.put e v).eval (.tmp d) = a.eval (.tmp d) := by
 cases e with
 | none => rfl
 | some e =>
   show (a.tmps.setIfInBounds e v).getD d undef = a.tmps.getD d undef
   have : e ≠ d := fun x => h (by rw [x])
   simp [Array.getD_eq_getD_getElem?, Array.getElem?_setIfInBounds_ne this]
theorem eval_put_self (a : Act) (v : Value) (d : Nat) (h : d < a.tmps.size) : (a.put (some d) v).eval (.tmp d) = v := by
 show (a.tmps.setIfInBounds d v).getD d undef = v
 simp [Array.getD_eq_getD_getElem?, h]
theorem size_put (a : Act) (e : Option Nat) (v : Value) : (a.put e v).tmps.size = a.tmps.size := by
 cases e <;> simp [Act.put]
theorem putO_other : ∀ (ds : List (Option Nat)) (p : Nat) (m : List Bool) (g : Nat → Value) (a : Act) (d : Nat), ds.contains (some d) = false → (putO ds p m g a).eval (.tmp d) = a.eval (.tmp d)
 | [], _, _, _, _, _, _ => rfl
 | e :: r, p, m, g, a, d, h => by
   simp only [List.contains_cons, Bool.or_eq_false_iff, beq_eq_false_iff_ne] at h
   unfold putO
   rw [putO_other r (p + 1) m g _ d h.2]
   split
   · exact eval_put_ne _ _ _ _ (Ne.symm h.1)
   · rfl
theorem putO_done : ∀ (ds : List (Option Nat)) (p : Nat) (m : List Bool) (g : Nat → Value) (a : Act) (q d : Nat), apartO ds = true → ds[q]? = some (some d) → m.getD (p + q) false = true → d < a.tmps.size → (putO ds p m g a).eval (.tmp d) = g (p + q)
 | [], _, _, _, _, _, _, _, h, _, _ => by simp at h
 | e :: r, p, m, g, a, 0, d, hap, h, hm, hs => by
   simp only [apartO, Bool.and_eq_true] at hap
   have he : e = some d := by simpa using h
   subst he
   unfold putO
   rw [if_pos (by simpa using hm), putO_other r (p + 1) m g _ d (by simpa using hap.1)]
   exact eval_put_self _ _ _ hs
 | e :: r, p, m, g, a, q + 1, d, hap, h, hm, hs => by
   simp only [apartO, Bool.and_eq_true] at hap
   unfold putO
   rw [show p + (q + 1) = p + 1 + q by omega] at hm ⊢
   refine putO_done r (p + 1) m g _ q d hap.2 (by simpa using h) hm ?_
   split
   · rw [size_put]; exact hs
   · exact hs
def closedO (deps : List (List Nat)) (m : List Bool) : Bool := (List.range m.length).all fun p => !m.getD p false || (deps.getD p []).all fun q => m.getD q false
def tblOf (ops : Array Oper) : List (Nat × List Nat) := (List.range ops.size).map fun i => (i, match ops[i]? with
 | some o => (o.after.toList.filter fun e => Region.binds .any e).map (·.on)
 | none => [])
def readyN (tbl : List (Nat × List Nat)) (M : Nat) : List Nat := (tbl.filter fun x => !M.testBit x.1 && x.2.all fun j => M.testBit j).map (·.1)
theorem readyN_mem {ops : Array Oper} {listed : Array Bool} {M : Nat} (hs : listed.size = ops.size) (H : ∀ j, listed.getD j false = M.testBit j) (i : Nat) : i ∈ Region.ready .any ops listed ↔ i ∈ readyN (tblOf ops) M := by
 have hsame : ∀ j, j < ops.size → listed.getD j true = listed.getD j false := fun j hj => by
   rw [Array.getD_eq_getD_getElem?, Array.getD_eq_getD_getElem?, Array.getElem?_eq_getElem (by omega)]
   rfl
 rw [mem_ready]
 unfold readyN tblOf
 simp only [List.mem_map, List.mem_filter, List.mem_range, Bool.and_eq_true, Bool.not_eq_true', List.all_eq_true]
 constructor
 · rintro ⟨h1, o, ho, h2⟩
   have hi : i < ops.size := (Array.getElem?_eq_some_iff.1 ho).1
   refine ⟨_, ⟨⟨i, hi, rfl⟩, ?_, ?_⟩, rfl⟩
   · dsimp only
     rw [← H, ← hsame i hi]
     exact h1
   · dsimp only
     rw [ho]
     intro j hj
     obtain ⟨e, he, rfl⟩ := List.mem_map.1 hj
     rw [List.mem_filter] at he
     rw [← H]
     exact h2 e (by simpa using he.1) he.2
 · rintro ⟨x, ⟨⟨k, hk, rfl⟩, h1, h2⟩, rfl⟩
   dsimp only at *
   obtain ⟨o, ho⟩ : ∃ o, ops[k]? = some o := ⟨_, Array.getElem?_eq_getElem hk⟩
   rw [ho] at h2
   refine ⟨?_, o, ho, fun e he hb => ?_⟩
   · rw [hsame k hk, H]
     exact h1
   · rw [H]
     exact h2 _ (List.mem_map.2 ⟨e, List.mem_filter.2 ⟨by simpa using he, hb⟩, rfl⟩)
def dedupN : List Nat → List Nat
 | [] => []
 | m :: r => if (dedupN r).contains m then dedupN r else m :: dedupN r
theorem mem_dedupN {x : Nat} : ∀ {L : List Nat}, x ∈ L → x ∈ dedupN L
 | m :: r, h => by
   unfold dedupN
   rcases List.mem_cons.1 h with rfl | h
   · split
     · rename_i hc
       simpa using hc
     · exact List.mem_cons_self
   · split
     · exact mem_dedupN h
     · exact List.mem_cons_of_mem _ (mem_dedupN h)
def stepN (S : List Nat) (deps : List (List Nat)) (M i : Nat) : Bool :=
 match S.idxOf? i with
 | none => false
 | some p => (S.getD p 0 == i) && decide (p < S.length) && (deps.getD p []).all fun q => decide (q < S.length) && M.testBit (S.getD q 0)
def nextN (tbl : List (Nat × List Nat)) (L : List Nat) : List Nat := dedupN (L.flatMap fun M => (readyN tbl M).map fun i => M ||| 1 <<< i)
def poGo (tbl : List (Nat × List Nat)) (S : List Nat) (deps : List (List Nat)) : Nat → List Nat → Bool
 | 0, L => L.all fun M => (readyN tbl M).isEmpty
 | n + 1, L => (L.all fun M => !(readyN tbl M).isEmpty && (readyN tbl M).all fun i => stepN S deps M i) && poGo tbl S deps n (nextN tbl L)
def nodupN : List Nat → Bool
 | [] => true
 | m :: r => !r.contains m && nodupN r
def startN (S : List Nat) (l1 : Array Bool) (n M0 : Nat) : Bool := l1.size == n && decide (M0 < 2 ^ n) && ((List.range n).all fun j => l1.getD j false == M0.testBit j) && (S.all fun i => decide (i < n) && !M0.testBit i) && nodupN S
def poOk (ops : Array Oper) (S : List Nat) (deps : List (List Nat)) (l1 : Array Bool) (tbl : List (Nat × List Nat)) (M0 : Nat) : Bool := (tblOf ops == tbl) && startN S l1 ops.size M0 && poGo tbl S deps S.length [M0]
theorem listM_set : ∀ (S : List Nat) (p : Nat) (m : List Bool) (l : Array Bool) (k : Nat), k < S.length → p + k < m.length → listM S p (m.set (p + k) true) l = (listM S p m l).setIfInBounds (S.getD k 0) true
 | [], _, _, _, _, h, _ => by simp at h
 | i :: r, p, m, l, k, h, hl => by
   have hcomm : ∀ (r : List Nat) (p : Nat) (m : List Bool) (l : Array Bool) (i : Nat), listM r p m (l.setIfInBounds i true) = (listM r p m l).setIfInBounds i true := by
     intro r
     induction r with
     | nil => intros; rfl
     | cons j r ih =>
       intro p m l i
       unfold listM
       split
       · rw [show (l.setIfInBounds i true).setIfInBounds j true = (l.setIfInBounds j true).setIfInBounds i true by
           by_cases e : i = j
           · rw [e]
           · exact (Array.setIfInBounds_comm _ _ e)]
         exact ih _ _ _ _
       · exact ih _ _ _ _
   have hcg : ∀ (r : List Nat) (p : Nat) (m m' : List Bool) (l : Array Bool), (∀ q, p ≤ q → m.getD q false = m'.getD q false) → listM r p m l = listM r p m' l := by
     intro r
     induction r with
     | nil => intros; rfl
     | cons j r ih =>
       intro p m m' l hq
       unfold listM
       rw [hq p (Nat.le_refl _)]
       exact ih _ _ _ _ fun q hq' => hq q (by omega)
   cases k with
   | zero =>
     show listM (i :: r) p (m.set (p + 0) true) l = (listM (i :: r) p m l).setIfInBounds i true
     unfold listM
     rw [show (m.set (p + 0) true).getD p false = true by
       rw [Nat.add_zero] at hl ⊢
       rw [List.getD_eq_getElem?_getD, List.getElem?_set_self hl]; rfl, if_pos rfl]
     rw [hcg r (p + 1) (m.set (p + 0) true) m _ (fun q hq => getD_set_ne m (p + 0) q (by omega)), hcomm]
     split
     · rw [hcomm]
       rw [Array.setIfInBounds_setIfInBounds]
     · rfl
   | succ k =>
     have h2 : k < r.length := by simpa using h
     have ih := listM_set r (p + 1) m (if m.getD p false = true then l.setIfInBounds i true else l) k h2 (by omega)
     unfold listM
     rw [getD_set_ne m (p + (k + 1)) p (by omega), show p + (k + 1) = p + 1 + k by omega, ih]
     rfl
theorem closedO_spec {deps : List (List Nat)} {m : List Bool} (h : closedO deps m = true) {p q : Nat} (hp : m.getD p false = true) (hq : q ∈ deps.getD p []) : m.getD q false = true := by
 have hl : p < m.length := by
   refine Nat.lt_of_not_le fun hn => ?_
   rw [List.getD_eq_getElem?_getD, List.getElem?_eq_none hn] at hp
   cases hp
 have h1 := List.all_eq_true.1 h p (List.mem_range.2 hl)
 rw [hp, Bool.not_true, Bool.false_or] at h1
 exact List.all_eq_true.1 h1 q hq
theorem closedO_set {deps : List (List Nat)} {m : List Bool} (h : closedO deps m = true) {p : Nat} (hd : ((deps.getD p []).all fun q => m.getD q false) = true) : closedO deps (m.set p true) = true := by
 refine List.all_eq_true.2 fun r hr => ?_
 rw [List.length_set, List.mem_range] at hr
 have mono : ∀ q, m.getD q false = true → (m.set p true).getD q false = true := fun q hq => by
   by_cases e : q = p
   · subst e
     have hl : q < m.length := by
       refine Nat.lt_of_not_le fun hn => ?_
       rw [List.getD_eq_getElem?_getD, List.getElem?_eq_none hn] at hq
       cases hq
     rw [List.getD_eq_getElem?_getD, List.getElem?_set_self hl]
     rfl
   · rw [getD_set_ne m p q e]
     exact hq
 by_cases e : r = p
 · subst e
   rw [Bool.or_eq_true]
   right
   exact List.all_eq_true.2 fun q hq => mono q (List.all_eq_true.1 hd q hq)
 · rw [getD_set_ne m p r e]
   cases hm : m.getD r false with
   | false => rfl
   | true =>
     rw [Bool.not_true, Bool.false_or]
     exact List.all_eq_true.2 fun q hq => mono q (closedO_spec h hm hq)
def PoEnd (Q : Exit → Act → World → Prop) (a : Act) (w : World) : Prop := Q .normal a w
theorem po_end {a : Act} {w : World} (h : Q .normal a w) : PoEnd Q a w := h
def PoZ (P : Program) (ops : Array Oper) (Q : Exit → Act → World → Prop) (E : World → World → Prop) (S : List Nat) (ds : List (Option Nat)) (deps : List (List Nat)) (a : Act) (w : World) : Prop :=
 ∃ J : List Bool → (Nat → Value) → World → Prop, J (List.replicate S.length false) (fun _ => undef) w ∧
   (∀ m g w1 p a1, p < S.length → m.length = S.length → m.getD p true = false → closedO deps m = true → (∀ q, q ∈ deps.getD p [] → m.getD q false = true) → E w w1 → J m g w1 →
     (∀ q d, ds[q]? = some (some d) → m.getD q false = true → d < a.tmps.size → a1.eval (.tmp d) = g q) → (∀ d, ds.contains (some d) = false → a1.eval (.tmp d) = a.eval (.tmp d)) →
     wpOp P ops Q (S.getD p 0) (fun a' w' => E w w' ∧ ∃ v, a' = a1.put (ds.getD p none) v ∧ J (m.set p true) (upd g p v) w') a1 w1) ∧
   ∀ g w1, E w w1 → J (List.replicate S.length true) g w1 → PoEnd Q (putO ds 0 (List.replicate S.length true) g a) w1
theorem nodupN_ne : ∀ {S : List Nat}, nodupN S = true → ∀ {p q : Nat}, p < S.length → q < S.length → p ≠ q → S.getD p 0 ≠ S.getD q 0
 | [], _, _, _, h, _, _ => by simp at h
 | i :: r, hn, p, q, hp, hq, hpq => by
   simp only [nodupN, Bool.and_eq_true, Bool.not_eq_true', List.contains_eq_mem, decide_eq_false_iff_not] at hn
   have hmem : ∀ k, k < r.length → r.getD k 0 ∈ r := fun k hk => by
     rw [List.getD_eq_getElem?_getD, List.getElem?_eq_getElem hk]
     exact List.getElem_mem hk
   cases p with
   | zero =>
     cases q with
     | zero => exact absurd rfl hpq
     | succ q =>
       intro e
       have e' : i = r.getD q 0 := e
       exact hn.1 (e' ▸ hmem q (by simpa using hq))
   | succ p =>
     cases q with
     | zero =>
       intro e
       have e' : r.getD p 0 = i := e
       exact hn.1 (e' ▸ hmem p (by simpa using hp))
     | succ q => exact nodupN_ne hn.2 (p := p) (q := q) (by simpa using hp) (by simpa using hq) (by omega)
structure MaskOk (S : List Nat) (l : Array Bool) (n : Nat) (m : List Bool) (M : Nat) : Prop where
 size : (listM S 0 m l).size = n
 all : ∀ j, (listM S 0 m l).getD j false = M.testBit j
 item : ∀ q, q < S.length → m.getD q false = M.testBit (S.getD q 0)
theorem bit_or (M i j : Nat) : (M ||| 1 <<< i).testBit j = (M.testBit j || decide (j = i)) := by
 rw [Nat.testBit_or, Nat.testBit_shiftLeft]
 by_cases h : j = i
 · subst h
   simp
 · rw [decide_eq_false h]
   congr 1
   by_cases h2 : i ≤ j
   · rw [decide_eq_true h2, Bool.true_and]
     refine Bool.eq_false_iff.2 fun h3 => ?_
     have := Nat.testBit_one_eq_true_iff_self_eq_zero.1 h3
     omega
   · rw [decide_eq_false h2, Bool.false_and]
theorem MaskOk.step {S : List Nat} {l : Array Bool} {n : Nat} {m : List Bool} {M p : Nat} (h : MaskOk S l n m M) (hnd : nodupN S = true) (hp : p < S.length) (hm : m.length = S.length) (hS : S.getD p 0 < n) : MaskOk S l n (m.set p true) (M ||| 1 <<< (S.getD p 0)) := by
 have e := listM_set S 0 m l p hp (by omega)
 rw [Nat.zero_add] at e
 refine ⟨by rw [e, Array.size_setIfInBounds]; exact h.size, fun j => ?_, fun q hq => ?_⟩
 · rw [e, bit_or]
   by_cases hj : j = S.getD p 0
   · rw [decide_eq_true hj, Bool.or_true, hj, Array.getD_eq_getD_getElem?, Array.getElem?_setIfInBounds_self_of_lt (by rw [h.size]; exact hS)]
     rfl
   · rw [decide_eq_false hj, Bool.or_false, Array.getD_eq_getD_getElem?, Array.getElem?_setIfInBounds_ne (Ne.symm hj), ← Array.getD_eq_getD_getElem?]
     exact h.all j
 · rw [bit_or]
   by_cases hq2 : q = p
   · subst hq2
     rw [decide_eq_true rfl, Bool.or_true, List.getD_eq_getElem?_getD, List.getElem?_set_self (by omega)]
     rfl
   · rw [getD_set_ne m p q hq2, h.item q hq, decide_eq_false (nodupN_ne hnd hq hp hq2), Bool.or_false]
theorem wpAnyH_po (S : List Nat) (ds : List (Option Nat)) (deps : List (List Nat)) (l : Array Bool) (hnd : apartO ds = true) (hlen : ds.length = S.length) (hS : nodupN S = true) (hSn : ∀ i, i ∈ S → i < ops.size) {a : Act} {w0 : World} (J : List Bool → (Nat → Value) → World → Prop)
   (hstep : ∀ m g w1 p a1, p < S.length → m.length = S.length → m.getD p true = false → closedO deps m = true → (∀ q, q ∈ deps.getD p [] → m.getD q false = true) → E w0 w1 → J m g w1 →
     (∀ q d, ds[q]? = some (some d) → m.getD q false = true → d < a.tmps.size → a1.eval (.tmp d) = g q) → (∀ d, ds.contains (some d) = false → a1.eval (.tmp d) = a.eval (.tmp d)) →
     wpOp P ops Q (S.getD p 0) (fun a' w' => E w0 w' ∧ ∃ v, a' = a1.put (ds.getD p none) v ∧ J (m.set p true) (upd g p v) w') a1 w1)
   (hfin : ∀ g w1, E w0 w1 → J (List.replicate S.length true) g w1 → Q .normal (putO ds 0 (List.replicate S.length true) g a) w1) :
   ∀ (n : Nat) (fuel : Nat) (L : List Nat) (M : Nat) (m : List Bool) (g : Nat → Value) (w1 : World), poGo (tblOf ops) S deps n L = true → M ∈ L → MaskOk S l ops.size m M → falses m = n → m.length = S.length → n ≤ fuel → closedO deps m = true → E w0 w1 → J m g w1 → wpAnyH P .any ops Q (E w0) fuel (listM S 0 m l) (putO ds 0 m g a) w1 := by
 intro n
 induction n with
 | zero =>
   intro fuel L M m g w1 hk hmem hM hf hm hfu hcl hE hJ
   have hall : m.all id = true := by
     clear hm hJ hcl hM
     induction m with
     | nil => rfl
     | cons b m ih =>
       cases b
       · simp [falses] at hf
       · simp only [List.all_cons, id, Bool.true_and]
         exact ih (by simpa [falses] using hf)
   have e := all_rep m hall
   rw [hm] at e
   subst e
   have h0 : readyN (tblOf ops) M = [] := by simpa using List.all_eq_true.1 hk M hmem
   refine wpAnyH_done ?_ (hfin g w1 hE hJ) fuel
   refine List.eq_nil_iff_forall_not_mem.2 fun i hi => ?_
   have := (readyN_mem hM.size hM.all i).1 hi
   rw [h0] at this
   cases this
 | succ n ih =>
   intro fuel L M m g w1 hk hmem hM hf hm hfu hcl hE hJ
   rw [poGo, Bool.and_eq_true] at hk
   have hc := List.all_eq_true.1 hk.1 M hmem
   rw [Bool.and_eq_true] at hc
   cases fuel with
   | zero => omega
   | succ fuel =>
     refine wpAnyH_all rfl (fun h0 => ?_) fun i hi => ?_
     · have h1 : readyN (tblOf ops) M = [] := List.eq_nil_iff_forall_not_mem.2 fun i hi => by
         have := (readyN_mem hM.size hM.all i).2 hi
         rw [h0] at this
         cases this
       rw [h1] at hc
       exact absurd hc.1 (by decide)
     have hiN := (readyN_mem hM.size hM.all i).1 hi
     have hs := List.all_eq_true.1 hc.2 i hiN
     unfold stepN at hs
     cases hx : S.idxOf? i with
     | none => rw [hx] at hs; cases hs
     | some p =>
       rw [hx] at hs
       simp only [Bool.and_eq_true, beq_iff_eq, decide_eq_true_eq] at hs
       obtain ⟨⟨h3, h2⟩, h5⟩ := hs
       have hbit : M.testBit i = false := by
         have := (mem_ready.1 hi).1
         have hi2 : i < ops.size := by obtain ⟨_, o, ho, _⟩ := mem_ready.1 hi; exact (Array.getElem?_eq_some_iff.1 ho).1
         rw [← hM.all]
         rw [Array.getD_eq_getD_getElem?, Array.getElem?_eq_getElem (by rw [hM.size]; exact hi2)] at this ⊢
         exact this
       have h1f : m.getD p false = false := by rw [hM.item p h2, h3]; exact hbit
       have h1 : m.getD p true = false := by
         rw [List.getD_eq_getElem?_getD, List.getElem?_eq_getElem (by omega)] at h1f ⊢
         exact h1f
       have h5' : ∀ q, q ∈ deps.getD p [] → m.getD q false = true := fun q hq => by
         have := List.all_eq_true.1 h5 q hq
         simp only [Bool.and_eq_true, decide_eq_true_eq] at this
         rw [hM.item q this.1]
         exact this.2
       have hst := hstep m g w1 p (putO ds 0 m g a) h2 hm h1 hcl h5' hE hJ
         (fun q d hq hmq hd => by have := putO_done ds 0 m g a q d hnd hq (by rw [Nat.zero_add]; exact hmq) hd; rwa [Nat.zero_add] at this) (fun d hd => putO_other ds 0 m g a d hd)
       rw [h3] at hst
       refine wpOp_mono (fun a' w' h' => ?_) hst
       obtain ⟨hE', v, rfl, hJ'⟩ := h'
       refine ⟨hE', ?_⟩
       have hl := listM_set S 0 m l p h2 (by omega)
       rw [Nat.zero_add, h3] at hl
       rw [← hl]
       have hp := putO_set ds 0 m g a p v hnd (by omega) (by omega) (by rw [Nat.zero_add]; exact h1)
       rw [Nat.zero_add] at hp
       rw [hp]
       have hiS : i ∈ S := by
         have : S.getD p 0 ∈ S := by
           rw [List.getD_eq_getElem?_getD, List.getElem?_eq_getElem h2]
           exact List.getElem_mem h2
         rwa [h3] at this
       have hnext : M ||| 1 <<< i ∈ nextN (tblOf ops) L := mem_dedupN (List.mem_flatMap.2 ⟨M, hmem, List.mem_map.2 ⟨i, hiN, rfl⟩⟩)
       have hM' := hM.step hS h2 hm (by rw [h3]; exact hSn i hiS)
       rw [h3] at hM'
       have hfs := falses_set m p (by omega) h1
       exact ih fuel _ _ _ _ w' hk.2 hnext hM' (by omega) (by rw [List.length_set]; exact hm) (by omega) (closedO_set hcl (List.all_eq_true.2 h5')) hE' hJ'
theorem closedO_none (deps : List (List Nat)) (n : Nat) : closedO deps (List.replicate n false) = true := by
 refine List.all_eq_true.2 fun p _ => ?_
 rw [show (List.replicate n false).getD p false = false by
   rw [List.getD_eq_getElem?_getD, List.getElem?_replicate]; split <;> rfl]
 rfl
theorem wp_region_po {id : Nat} {a : Act} {w : World} (E : World → World → Prop) (hrf : ∀ w, E w w) (htr : ∀ w1 w2 w3, E w1 w2 → E w2 w3 → E w1 w3) (r1 : Stp) (l1 : Array Bool) (S : List Nat) (ds : List (Option Nat)) (deps : List (List Nat)) (tbl : List (Nat × List Nat)) (M0 : Nat)
   (hm : P.follows .mixedOrders = true) (hs : Region.noSelect ops = true) (hl : r1.depth + S.length ≤ ops.size) (hk1 : lintzOk ops l1 r1 (Array.replicate ops.size false) = true) (hk2 : poOk ops S deps l1 tbl M0 = true)
   (hnd : apartO ds = true) (hlen : ds.length = S.length) (hQ : ∀ d v c a w, Q (.panic c) (Act.put a d v) w → Q (.panic c) a w)
   (h : LinZ P ops Q E (fun a1 w1 => PoZ P ops Q E S ds deps a1 w1) r1 a w.drew) : (Code.region id ops true).wp P Q a w := by
 refine wp_region_held hm (wpAnyH_lintz hrf htr hs hQ S.length l1 (fun fuel a1 w1 hf hK => ?_) r1 _ _ _ _ hl hk1 h)
 obtain ⟨J, h0, hst, hfin⟩ := hK
 simp only [poOk, Bool.and_eq_true, beq_iff_eq] at hk2
 obtain ⟨⟨ht, hstart⟩, hgo⟩ := hk2
 subst ht
 simp only [startN, Bool.and_eq_true, beq_iff_eq, decide_eq_true_eq, List.all_eq_true, List.mem_range, Bool.not_eq_true'] at hstart
 obtain ⟨⟨⟨⟨hsz, hM0⟩, hbits⟩, hS⟩, hSnd⟩ := hstart
 have hMk : MaskOk S l1 ops.size (List.replicate S.length false) M0 := by
   refine ⟨by rw [listM_none]; exact hsz, fun j => ?_, fun q hq => ?_⟩
   · rw [listM_none]
     by_cases hj : j < ops.size
     · exact hbits j hj
     · rw [Array.getD_eq_getD_getElem?, Array.getElem?_eq_none (by omega)]
       exact (Nat.testBit_lt_two_pow (Nat.lt_of_lt_of_le hM0 (Nat.pow_le_pow_right (by decide) (by omega)))).symm
   · rw [show (List.replicate S.length false).getD q false = false by
       rw [List.getD_eq_getElem?_getD, List.getElem?_replicate]; split <;> rfl]
     have hmem : S.getD q 0 ∈ S := by
       rw [List.getD_eq_getElem?_getD, List.getElem?_eq_getElem hq]
       exact List.getElem_mem hq
     exact (hS _ hmem).2.symm
 have h1 := wpAnyH_po (E := E) S ds deps l1 hnd hlen hSnd (fun i hi => (hS i hi).1) (a := a1) (w0 := w1) J hst hfin S.length fuel _ M0 (List.replicate S.length false) (fun _ => undef) w1 hgo (List.mem_singleton.2 rfl) hMk (falses_rep _) List.length_replicate hf (closedO_none _ _) (hrf _) h0
 rwa [putO_none, listM_none] at h1
end
structure Keep (bs : List Nat) (w w' : World) : Prop where
 os : w'.os = w.os
 tape : w'.tape = w.tape
 output : w'.output = w.output
 size : w.heap.size ≤ w'.heap.size
 block : ∀ k, k < w.heap.size → bs.contains k = false → w'.heap[k]? = w.heap[k]?
theorem Keep.refl (bs : List Nat) (w : World) : Keep bs w w := ⟨rfl, rfl, rfl, Nat.le_refl _, fun _ _ _ => rfl⟩
theorem Keep.trans {bs : List Nat} {a b c : World} (h : Keep bs a b) (k : Keep bs b c) : Keep bs a c :=
 ⟨k.os.trans h.os, k.tape.trans h.tape, k.output.trans h.output, Nat.le_trans h.size k.size, fun i hi hb => (k.block i (by have := h.size; omega) hb).trans (h.block i hi hb)⟩
theorem Keep.of {bs : List Nat} {w w' : World} (h : Below w.heap.size w w') : Keep bs w w' := ⟨h.os, h.tape, h.output, h.size, fun k hk _ => h.block k hk⟩
theorem Keep.of_grown {bs : List Nat} {w0 w w' : World} {b : Nat} (h0 : Keep bs w0 w) (h : w.grownBy w' (some b)) (hb : w0.heap.size ≤ b ∨ bs.contains b = true) : Keep bs w0 w' :=
 ⟨h.os.trans h0.os, h.tape.trans h0.tape, h.output.trans h0.output, Nat.le_trans h0.size h.size, fun k hk hk2 => (h.block k (by have := h0.size; omega) (fun e => by
   have e1 : k = b := Option.some.inj e
   subst e1
   rcases hb with hb | hb
   · omega
   · rw [hb] at hk2; cases hk2)).trans (h0.block k hk hk2)⟩
theorem Keep.below {bs : List Nat} {B : Nat} {w w1 w2 : World} (h : Keep bs w1 w2) (hb : Below B w w1) (hs : B ≤ w1.heap.size) (hbs : (bs.all fun b => decide (B ≤ b)) = true) : Below B w w2 :=
 hb.trans ⟨h.os, h.tape, h.output, h.size, fun k hk => h.block k (by omega) (by
   refine Bool.eq_false_iff.2 fun hc => ?_
   have h1 := List.all_eq_true.1 hbs k (by simpa using hc)
   simp only [decide_eq_true_eq] at h1
   omega)⟩
theorem Keep.row {bs : List Nat} {w w' : World} {b m : Nat} {t : TypeId} {f : Nat → Value} (h : Keep bs w w') (hr : w.rowIs b t m f) (hb : bs.contains b = false) : w'.rowIs b t m f := hr.of_block (h.block b hr.lt hb)
theorem keep_all1 {B b : Nat} (h : B ≤ b) : ([b].all fun b => decide (B ≤ b)) = true := by simp [h]
theorem keep_all2 {B b c : Nat} (h : B ≤ b) (k : B ≤ c) : ([b, c].all fun b => decide (B ≤ b)) = true := by simp [h, k]
inductive PI where
 | val (v : Value)
 | row (ty : TypeId) (k : Nat) (f0 : Nat → Value) (s : Nat) (f1 : Nat → Value)
 | own (l : List UInt8) (u : Nat)
 | nil
structure Old where
 b : Nat
 ty : TypeId
 k : Nat
 f0 : Nat → Value
 s : Nat
 f1 : Nat → Value
def PI.isRow : PI → Bool | .row .. => true | _ => false
def PI.isNil : PI → Bool | .nil => true | _ => false
def PI.lives (m : List Bool) : PI → Bool | .row .. => true | .own _ u => !m.getD u false | _ => false
def blkOf : Value → Option Nat
 | .pointer (some a) => some a.block
 | .slice (some a) _ _ => some a.block
 | _ => none
def PIfact (N : Nat) (m : List Bool) (g : Nat → Value) (w : World) (p : Nat) : PI → Prop
 | .val v => g p = v
 | .row ty k f0 s f1 => ∃ b, g p = .pointer (some ⟨b, 0, none⟩) ∧ N ≤ b ∧ w.rowIs b ty k (if m.getD s false = true then f1 else f0)
 | .own l u => m.getD u false = false → Owns w N (g p) l
 | .nil => True
def poWf (it : List PI) (olds : List Old) : Bool := (it.all fun i => match i with | .row _ _ _ s _ => (it.getD s .nil).isNil | _ => true) && olds.all fun o => (it.getD o.s .nil).isNil
structure JG (it : List PI) (olds : List Old) (N : Nat) (m : List Bool) (g : Nat → Value) (w : World) : Prop where
 le : N ≤ w.heap.size
 olds : ∀ i, (h : i < olds.length) → w.rowIs olds[i].b olds[i].ty olds[i].k (if m.getD olds[i].s false = true then olds[i].f1 else olds[i].f0)
 items : ∀ p, m.getD p false = true → PIfact N m g w p (it.getD p .nil)
 apart : ∀ p q, p ≠ q → m.getD p false = true → m.getD q false = true → (it.getD p .nil).lives m = true → (it.getD q .nil).lives m = true → ∀ b, blkOf (g p) = some b → blkOf (g q) ≠ some b
theorem getD_rep (n q : Nat) (h : q < n) : (List.replicate n true).getD q false = true := by
 rw [List.getD_eq_getElem?_getD, List.getElem?_replicate, if_pos h]
 rfl
theorem getD_repF (n q : Nat) : (List.replicate n false).getD q false = false := by
 rw [List.getD_eq_getElem?_getD, List.getElem?_replicate]; split <;> rfl
theorem getD_set_self' (m : List Bool) (p : Nat) (h : p < m.length) : (m.set p true).getD p false = true := by
 rw [List.getD_eq_getElem?_getD, List.getElem?_set_self h]
 rfl
theorem getD_set_false {m : List Bool} {p q : Nat} (h : (m.set p true).getD q false = false) : m.getD q false = false := by
 by_cases e : q = p
 · subst e
   cases hx : m.getD q false with
   | false => rfl
   | true =>
     have hl : q < m.length := by
       refine Nat.lt_of_not_le fun hn => ?_
       rw [List.getD_eq_getElem?_getD, List.getElem?_eq_none hn] at hx
       cases hx
     rw [getD_set_self' m q hl] at h
     cases h
 · rwa [getD_set_ne m p q e] at h
theorem PI.lives_less {i : PI} {m : List Bool} {p : Nat} (h : i.lives (m.set p true) = true) : i.lives m = true := by
 cases i with
 | val _ => cases h
 | nil => cases h
 | row _ _ _ _ _ => rfl
 | own l u =>
   simp only [PI.lives, Bool.not_eq_true'] at h ⊢
   exact getD_set_false h
theorem JG.start {it : List PI} {olds : List Old} {N n : Nat} {g : Nat → Value} {w : World} (hN : N ≤ w.heap.size) (h : ∀ i, (h : i < olds.length) → w.rowIs olds[i].b olds[i].ty olds[i].k olds[i].f0) : JG it olds N (List.replicate n false) g w :=
 ⟨hN, fun i hi => by rw [getD_repF, if_neg (by decide)]; exact h i hi, fun p hp => (by rw [getD_repF] at hp; cases hp), fun p q _ hp => (by rw [getD_repF] at hp; cases hp)⟩
theorem poWf_row {it : List PI} {olds : List Old} (h : poWf it olds = true) {q : Nat} {ty : TypeId} {k : Nat} {f0 : Nat → Value} {s : Nat} {f1 : Nat → Value} (hq : it.getD q .nil = .row ty k f0 s f1) : (it.getD s .nil).isNil = true := by
 simp only [poWf, Bool.and_eq_true] at h
 have hm : it.getD q .nil ∈ it := by
   rw [List.getD_eq_getElem?_getD] at hq ⊢
   cases hx : it[q]? with
   | none => rw [hx] at hq; cases hq
   | some i => exact List.mem_of_getElem? hx
 have h1 := List.all_eq_true.1 h.1 _ hm
 rw [hq] at h1
 exact h1
theorem poWf_old {it : List PI} {olds : List Old} (h : poWf it olds = true) {i : Nat} (hi : i < olds.length) : (it.getD olds[i].s .nil).isNil = true := by
 simp only [poWf, Bool.and_eq_true] at h
 exact List.all_eq_true.1 h.2 _ (List.getElem_mem hi)
theorem PIfact.congr {N : Nat} {m : List Bool} {g g' : Nat → Value} {w : World} {p : Nat} {i : PI} (h : PIfact N m g w p i) (hg : g' p = g p) : PIfact N m g' w p i := by
 cases i with
 | nil => trivial
 | val v => exact hg.trans h
 | row ty k f0 s f1 =>
   obtain ⟨b, h1, h2⟩ := h
   exact ⟨b, hg.trans h1, h2⟩
 | own l u =>
   intro hu
   rw [hg]
   exact h hu
theorem Owns.blk {w : World} {N : Nat} {v : Value} {l : List UInt8} (h : Owns w N v l) {b : Nat} (hb : blkOf v = some b) : v.ownBlock = some b ∧ N ≤ b ∧ b < w.heap.size := by
 have hv : v.ownBlock = some b := by
   obtain ⟨_, h2⟩ := h
   rcases h2 with ⟨rfl, _⟩ | ⟨g, cap, cur, rfl, _⟩
   · cases hb
   · exact hb
 exact ⟨hv, World.ownsRow.lt h b hv⟩
theorem Owns.blk_of {w : World} {N : Nat} {v : Value} {l : List UInt8} (h : Owns w N v l) {b : Nat} (hb : v.ownBlock = some b) : blkOf v = some b := by
 obtain ⟨_, h2⟩ := h
 rcases h2 with ⟨rfl, _⟩ | ⟨g, cap, cur, rfl, _⟩
 · cases hb
 · exact hb
theorem JG.blk {it : List PI} {olds : List Old} {N : Nat} {m : List Bool} {g : Nat → Value} {w : World} (h : JG it olds N m g w) {q : Nat} (hq : m.getD q false = true) (hl : (it.getD q .nil).lives m = true) {b : Nat} (hb : blkOf (g q) = some b) : N ≤ b ∧ b < w.heap.size := by
 have hf := h.items q hq
 cases hi : it.getD q .nil with
 | nil => rw [hi] at hl; cases hl
 | val u => rw [hi] at hl; cases hl
 | row ty k f0 s f1 =>
   rw [hi] at hf
   obtain ⟨b', k1, k2, k3⟩ := hf
   rw [k1] at hb
   have e : b' = b := Option.some.inj hb
   subst e
   exact ⟨k2, k3.lt⟩
 | own l u =>
   rw [hi] at hf hl
   exact ((hf (by simpa [PI.lives] using hl)).blk hb).2
theorem JG.kept {it : List PI} {olds : List Old} {N : Nat} {m : List Bool} {g : Nat → Value} {w w' : World} {p : Nat} {row : Option Nat} (h : JG it olds N m g w) (hg : w.grownBy w' row) {q : Nat} (hm : m.getD q false = true)
   (hs : ∀ ty k f0 s f1, it.getD q .nil = .row ty k f0 s f1 → s ≠ p) (hrow : (it.getD q .nil).lives (m.set p true) = true → ∀ b, blkOf (g q) = some b → row ≠ some b) : PIfact N (m.set p true) g w' q (it.getD q .nil) := by
 have hf := h.items q hm
 cases hi : it.getD q .nil with
 | nil => trivial
 | val u => rw [hi] at hf; exact hf
 | row ty k f0 s f1 =>
   rw [hi] at hf hrow
   obtain ⟨b, k1, k2, k3⟩ := hf
   refine ⟨b, k1, k2, ?_⟩
   rw [getD_set_ne m p s (hs _ _ _ _ _ hi)]
   exact k3.of_block (hg.block _ k3.lt (fun e => hrow rfl b (by rw [k1]; rfl) e.symm))
 | own l u =>
   rw [hi] at hf hrow
   intro hu
   have ho := hf (getD_set_false hu)
   have hl : (PI.own l u).lives (m.set p true) = true := by simp only [PI.lives, hu, Bool.not_false]
   refine World.ownsRow.kept ho hg ?_
   cases hx : (g q).ownBlock with
   | none => exact .inl rfl
   | some b => exact .inr (fun e => hrow hl b (ho.blk_of hx) e.symm)
theorem JG.put {it : List PI} {olds : List Old} {N : Nat} {m : List Bool} {g : Nat → Value} {w w' : World} {p : Nat} {v : Value} (h : JG it olds N m g w) (hsz : w.heap.size ≤ w'.heap.size) (holds : ∀ i, (h : i < olds.length) → w'.rowIs olds[i].b olds[i].ty olds[i].k (if (m.set p true).getD olds[i].s false = true then olds[i].f1 else olds[i].f0))
   (hkeep : ∀ q, q ≠ p → m.getD q false = true → PIfact N (m.set p true) g w' q (it.getD q .nil)) (hfact : PIfact N (m.set p true) (upd g p v) w' p (it.getD p .nil))
   (hblk : (it.getD p .nil).lives (m.set p true) = true → ∀ b, blkOf v = some b → ∀ q, q ≠ p → m.getD q false = true → (it.getD q .nil).lives (m.set p true) = true → blkOf (g q) ≠ some b) : JG it olds N (m.set p true) (upd g p v) w' := by
 refine ⟨Nat.le_trans h.le hsz, holds, fun q hq => ?_, fun x y hxy hx hy lx ly b hbx => ?_⟩
 · by_cases e : q = p
   · subst e; exact hfact
   · rw [getD_set_ne m p q e] at hq
     exact (hkeep q e hq).congr (upd_ne g p q v e)
 · by_cases ex : x = p
   · subst ex
     rw [upd_self] at hbx
     have ey : y ≠ x := Ne.symm hxy
     rw [upd_ne g x y v ey]
     rw [getD_set_ne m x y ey] at hy
     exact hblk lx b hbx y ey hy ly
   · rw [upd_ne g p x v ex] at hbx
     rw [getD_set_ne m p x ex] at hx
     by_cases ey : y = p
     · subst ey
       rw [upd_self]
       exact fun hby => hblk ly b hby x ex hx lx hbx
     · rw [upd_ne g p y v ey]
       rw [getD_set_ne m p y ey] at hy
       exact h.apart x y hxy hx hy (PI.lives_less lx) (PI.lives_less ly) b hbx
theorem grownBy_none {w w' : World} (h : Below w.heap.size w w') : w.grownBy w' none := ⟨h.os, h.tape, h.output, h.size, fun k hk _ => h.block k hk⟩
theorem JG.keptOlds {it : List PI} {olds : List Old} {N : Nat} {m : List Bool} {g : Nat → Value} {w w' : World} {p : Nat} {row : Option Nat} (h : JG it olds N m g w) (hg : w.grownBy w' row) (hs : ∀ i, (h : i < olds.length) → olds[i].s ≠ p) (hrow : ∀ i, (h : i < olds.length) → row ≠ some olds[i].b) :
   ∀ i, (h : i < olds.length) → w'.rowIs olds[i].b olds[i].ty olds[i].k (if (m.set p true).getD olds[i].s false = true then olds[i].f1 else olds[i].f0) := fun i hi => by
 rw [getD_set_ne m p _ (hs i hi)]
 have hr := h.olds i hi
 exact hr.of_block (hg.block _ hr.lt (fun e => hrow i hi e.symm))
theorem JG.val {it : List PI} {olds : List Old} {N : Nat} {m : List Bool} {g : Nat → Value} {w w' : World} {p : Nat} {v : Value} (hwf : poWf it olds = true) (h : JG it olds N m g w) (hit : it.getD p .nil = .val v) (hb : Below w.heap.size w w') : JG it olds N (m.set p true) (upd g p v) w' := by
 have hne : ∀ s, (it.getD s .nil).isNil = true → s ≠ p := fun s hs e => by rw [e, hit] at hs; cases hs
 have hg := grownBy_none hb
 refine h.put hb.size (h.keptOlds hg (fun i hi => hne _ (poWf_old hwf hi)) (fun _ _ e => by cases e)) (fun q _ hq => h.kept hg hq (fun ty k f0 s f1 hi => hne s (poWf_row hwf hi)) (fun _ _ _ e => by cases e)) ?_ (fun hl => by rw [hit] at hl; cases hl)
 rw [hit]
 exact upd_self _ _ _
theorem JG.owns {it : List PI} {olds : List Old} {N : Nat} {m : List Bool} {g : Nat → Value} {w w' : World} {p : Nat} {v : Value} {l : List UInt8} {u : Nat} (hwf : poWf it olds = true) (h : JG it olds N m g w) (hit : it.getD p .nil = .own l u) (hb : Below w.heap.size w w') (ho : Owns w' w.heap.size v l) : JG it olds N (m.set p true) (upd g p v) w' := by
 have hne : ∀ s, (it.getD s .nil).isNil = true → s ≠ p := fun s hs e => by rw [e, hit] at hs; cases hs
 have hg := grownBy_none hb
 refine h.put hb.size (h.keptOlds hg (fun i hi => hne _ (poWf_old hwf hi)) (fun _ _ e => by cases e)) (fun q _ hq => h.kept hg hq (fun ty k f0 s f1 hi => hne s (poWf_row hwf hi)) (fun _ _ _ e => by cases e)) ?_ (fun hl b hbv q _ hq hlq hbq => ?_)
 · rw [hit]
   intro _
   rw [upd_self]
   exact ho.lower h.le
 · have h1 := (ho.blk hbv).2.1
   have h2 := (h.blk hq (PI.lives_less hlq) hbq).2
   omega
theorem JG.alloc {it : List PI} {olds : List Old} {N : Nat} {m : List Bool} {g : Nat → Value} {w : World} {p : Nat} {ty : TypeId} {k : Nat} {f0 : Nat → Value} {s : Nat} {f1 : Nat → Value} (hwf : poWf it olds = true) (h : JG it olds N m g w) (hit : it.getD p .nil = .row ty k f0 s f1) (hs : m.getD s false = false) :
   JG it olds N (m.set p true) (upd g p (.pointer (some ⟨w.heap.size, 0, none⟩))) (w.alloc (.cells (arrOf k f0) ty)) := by
 have hne : ∀ s, (it.getD s .nil).isNil = true → s ≠ p := fun s hs e => by rw [e, hit] at hs; cases hs
 have hb : Below w.heap.size w (w.alloc (.cells (arrOf k f0) ty)) := (Below.refl _ _).alloc (Nat.le_refl _) _
 have hg := grownBy_none hb
 refine h.put hb.size (h.keptOlds hg (fun i hi => hne _ (poWf_old hwf hi)) (fun _ _ e => by cases e)) (fun q _ hq => h.kept hg hq (fun ty k f0 s f1 hi => hne s (poWf_row hwf hi)) (fun _ _ _ e => by cases e)) ?_ (fun hl b hbv q _ hq hlq hbq => ?_)
 · rw [hit]
   refine ⟨w.heap.size, upd_self _ _ _, h.le, ?_⟩
   rw [getD_set_ne m p s (hne s (poWf_row hwf hit)), if_neg (by rw [hs]; decide)]
   exact rowIs_arr _ _ _ _
 · have h1 : w.heap.size = b := Option.some.inj hbv
   have h2 := (h.blk hq (PI.lives_less hlq) hbq).2
   omega
theorem JG.storeRow {it : List PI} {olds : List Old} {N : Nat} {m : List Bool} {g : Nat → Value} {w w' : World} {p r : Nat} {ty : TypeId} {k : Nat} {f0 : Nat → Value} {f1 : Nat → Value} {b : Nat} {v : Value} (hp : p < m.length) (h : JG it olds N m g w) (hit : (it.getD p .nil).isNil = true)
   (hr : it.getD r .nil = .row ty k f0 p f1) (hm : m.getD r false = true) (hg : g r = .pointer (some ⟨b, 0, none⟩)) (hgb : w.grownBy w' (some b)) (hrow : w'.rowIs b ty k f1)
   (hone : ∀ q ty k f0 f1, it.getD q .nil = .row ty k f0 p f1 → q = r) (holds : ∀ i, (h : i < olds.length) → olds[i].s ≠ p ∧ olds[i].b < N) : JG it olds N (m.set p true) (upd g p v) w' := by
 have hlr : (it.getD r .nil).lives m = true := by rw [hr]; rfl
 have hNb : N ≤ b := (h.blk hm hlr (b := b) (by rw [hg]; rfl)).1
 have hnl : (it.getD p .nil).lives (m.set p true) = true → False := fun hl => by
   cases hi : it.getD p .nil with
   | nil => rw [hi] at hl; cases hl
   | val u => rw [hi] at hl; cases hl
   | row _ _ _ _ _ => rw [hi] at hit; cases hit
   | own _ _ => rw [hi] at hit; cases hit
 refine h.put hgb.size (h.keptOlds hgb (fun i hi => (holds i hi).1) (fun i hi e => ?_)) (fun q hqp hq => ?_) ?_ (fun hl => (hnl hl).elim)
 · have h1 : b = olds[i].b := Option.some.inj e
   have h2 := (holds i hi).2
   omega
 · by_cases e2 : q = r
   · subst e2
     rw [hr]
     refine ⟨b, hg, hNb, ?_⟩
     rw [getD_set_self' m p hp, if_pos rfl]
     exact hrow
   · refine h.kept hgb hq (fun ty k f0 s f1 hi e => ?_) (fun hlq b' hbq e => ?_)
     · subst e
       exact e2 (hone q _ _ _ _ hi)
     · have e3 : b = b' := Option.some.inj e
       subst e3
       exact h.apart q r e2 hq hm (PI.lives_less hlq) hlr b hbq (by rw [hg]; rfl)
 · cases hi : it.getD p .nil with
   | nil => trivial
   | val u => rw [hi] at hit; cases hit
   | row _ _ _ _ _ => rw [hi] at hit; cases hit
   | own _ _ => rw [hi] at hit; cases hit
theorem JG.storeOld {it : List PI} {olds : List Old} {N : Nat} {m : List Bool} {g : Nat → Value} {w w' : World} {p j : Nat} {v : Value} (hp : p < m.length) (h : JG it olds N m g w) (hit : (it.getD p .nil).isNil = true)
   (hj : j < olds.length) (hs : olds[j].s = p) (hbN : olds[j].b < N) (hgb : w.grownBy w' (some olds[j].b)) (hrow : w'.rowIs olds[j].b olds[j].ty olds[j].k olds[j].f1)
   (hone : ∀ q ty k f0 f1, it.getD q .nil ≠ .row ty k f0 p f1) (holds : ∀ i, (h : i < olds.length) → i ≠ j → olds[i].s ≠ p ∧ olds[i].b ≠ olds[j].b) : JG it olds N (m.set p true) (upd g p v) w' := by
 have hnl : (it.getD p .nil).lives (m.set p true) = true → False := fun hl => by
   cases hi : it.getD p .nil with
   | nil => rw [hi] at hl; cases hl
   | val u => rw [hi] at hl; cases hl
   | row _ _ _ _ _ => rw [hi] at hit; cases hit
   | own _ _ => rw [hi] at hit; cases hit
 refine h.put hgb.size (fun i hi => ?_) (fun q hqp hq => h.kept hgb hq (fun ty k f0 s f1 hi e => ?_) (fun hlq b hbq e => ?_)) ?_ (fun hl => (hnl hl).elim)
 · by_cases ei : i = j
   · subst ei
     rw [hs, getD_set_self' m p hp, if_pos rfl]
     exact hrow
   · obtain ⟨h1, h2⟩ := holds i hi ei
     rw [getD_set_ne m p _ h1]
     have hr := h.olds i hi
     exact hr.of_block (hgb.block _ hr.lt (fun e => h2 (Option.some.inj e)))
 · subst e
   exact hone q _ _ _ _ hi
 · have e3 : olds[j].b = b := Option.some.inj e
   have h1 := (h.blk hq (PI.lives_less hlq) hbq).1
   omega
 · cases hi : it.getD p .nil with
   | nil => trivial
   | val u => rw [hi] at hit; cases hit
   | row _ _ _ _ _ => rw [hi] at hit; cases hit
   | own _ _ => rw [hi] at hit; cases hit
theorem JG.ne {it : List PI} {olds : List Old} {N : Nat} {m : List Bool} {g : Nat → Value} {w : World} (h : JG it olds N m g w) {p q : Nat} (hpq : q ≠ p) (hp : m.getD p false = true) (hq : m.getD q false = true) (hrp : (it.getD p .nil).isRow = true) (hrq : (it.getD q .nil).isRow = true) : g q ≠ g p := by
 have hl : ∀ i : PI, i.isRow = true → i.lives m = true := fun i hi => by cases i with
   | row _ _ _ _ _ => rfl
   | val _ => cases hi
   | nil => cases hi
   | own _ _ => cases hi
 have hf := h.items p hp
 cases hi : it.getD p .nil with
 | val _ => rw [hi] at hrp; cases hrp
 | nil => rw [hi] at hrp; cases hrp
 | own _ _ => rw [hi] at hrp; cases hrp
 | row ty k f0 s f1 =>
   rw [hi] at hf
   obtain ⟨b, k1, _, _⟩ := hf
   exact fun e => h.apart q p hpq hq hp (hl _ hrq) (hl _ hrp) b (by rw [e, k1]; rfl) (by rw [k1]; rfl)
theorem JG.row {it : List PI} {olds : List Old} {N n : Nat} {g : Nat → Value} {w : World} (h : JG it olds N (List.replicate n true) g w) (p : Nat) (hp : p < n) {ty : TypeId} {k : Nat} {f0 : Nat → Value} {s : Nat} {f1 : Nat → Value} (hit : it.getD p .nil = .row ty k f0 s f1) (hs : s < n) :
   ∃ b, g p = .pointer (some ⟨b, 0, none⟩) ∧ N ≤ b ∧ w.rowIs b ty k f1 ∧ ∀ q, q ≠ p → q < n → (it.getD q .nil).isRow = true → g q ≠ g p := by
 have hf := h.items p (getD_rep n p hp)
 rw [hit] at hf
 obtain ⟨b, h1, h2, h3⟩ := hf
 rw [if_pos (getD_rep n s hs)] at h3
 exact ⟨b, h1, h2, h3, fun q hq1 hq2 hq3 => h.ne hq1 (getD_rep n p hp) (getD_rep n q hq2) (by rw [hit]; rfl) hq3⟩
theorem JG.told {it : List PI} {olds : List Old} {N n : Nat} {g : Nat → Value} {w : World} (h : JG it olds N (List.replicate n true) g w) (p : Nat) (hp : p < n) {v : Value} (hit : it.getD p .nil = .val v) : g p = v := by
 have hf := h.items p (getD_rep n p hp)
 rw [hit] at hf
 exact hf
theorem JG.old {it : List PI} {olds : List Old} {N n : Nat} {g : Nat → Value} {w : World} (h : JG it olds N (List.replicate n true) g w) (i : Nat) (hi : i < olds.length) (hs : olds[i].s < n) : w.rowIs olds[i].b olds[i].ty olds[i].k olds[i].f1 := by
 have hf := h.olds i hi
 rwa [if_pos (getD_rep n _ hs)] at hf
theorem JG.old0 {it : List PI} {olds : List Old} {N : Nat} {m : List Bool} {g : Nat → Value} {w : World} (h : JG it olds N m g w) (i : Nat) (hi : i < olds.length) (hs : m.getD olds[i].s false = false) : w.rowIs olds[i].b olds[i].ty olds[i].k olds[i].f0 := by
 have hf := h.olds i hi
 rwa [if_neg (by rw [hs]; decide)] at hf
theorem JG.says {it : List PI} {olds : List Old} {N : Nat} {m : List Bool} {g : Nat → Value} {w : World} (h : JG it olds N m g w) {p : Nat} (hp : m.getD p false = true) {v : Value} (hit : it.getD p .nil = .val v) : g p = v := by
 have hf := h.items p hp
 rw [hit] at hf
 exact hf
section
variable {P : Program} {ops : Array Oper} {Q : Exit → Act → World → Prop}
def oneB (it : List PI) (p r : Nat) : Bool := (List.range it.length).all fun q => match it.getD q .nil with | .row _ _ _ s _ => s != p || q == r | _ => true
theorem oneB_spec {it : List PI} {p r : Nat} (h : oneB it p r = true) (q : Nat) (ty : TypeId) (k : Nat) (f0 f1 : Nat → Value) (hq : it.getD q .nil = .row ty k f0 p f1) : q = r := by
 have hl : q < it.length := by
   refine Nat.lt_of_not_le fun hn => ?_
   rw [List.getD_eq_getElem?_getD, List.getElem?_eq_none hn] at hq
   cases hq
 have h1 := List.all_eq_true.1 h q (List.mem_range.2 hl)
 rw [hq] at h1
 simpa using h1
theorem po_call {bs : List Nat} {w0 : World} {i : Nat} {a : Act} {w : World} {o : Oper} {fn : Func} {it : List PI} {olds : List Old} {N : Nat} {m : List Bool} {g : Nat → Value} {p : Nat} {ds : List (Option Nat)} (d f : Nat) (xs : Array Operand) (ts : Array TypeId) (args : Array Value) {v : Value} (hwf : poWf it olds = true) (hJ : JG it olds N m g w) (hit : it.getD p .nil = .val v) (hE : Keep bs w0 w)
   (hc : Calls P f args w fun e w' => e = .returned v ∧ Below w.heap.size w w') (ho : ops[i]? = some o) (hd : o.dst = some d) (hds : ds.getD p none = some d) (hop : o.op = .call { callee := .value (.func f), args := xs, argTypes := ts })
   (hw : Region.wanted o (yielded ops a.tmps) = true) (hf : P.funcs[f]? = some fn) (hn : (fn.name == "runtime.NumGoroutine") = false) (hb : fn.body.isNone = false) (hargs : xs.map a.eval = args) :
   wpOp P ops Q i (fun a' w' => Keep bs w0 w' ∧ ∃ v, a' = a.put (ds.getD p none) v ∧ JG it olds N (m.set p true) (upd g p v) w') a w := by
 refine wpOp_step ho fun K' hK => ?_
 rw [if_pos hw]
 unfold Oper.wp
 have he : a.eval (.func f) = .func (.func f) #[] #[] := rfl
 have hx : (execOp a.eval o).run P w = .ok (.enter f args) w := by simp [execOp, hop, resolve, he, Deferred.ofValue, invoke, hargs, run_enter hf hn hb]
 rw [hx]
 refine hc.mono fun e w' hT => ?_
 obtain ⟨rfl, hb⟩ := hT
 exact hK _ _ ⟨hE.trans (Keep.of hb), v, by rw [hd, hds], hJ.val hwf hit hb⟩
theorem po_run {bs : List Nat} {w0 : World} {i : Nat} {a : Act} {w : World} {o : Oper} {it : List PI} {olds : List Old} {N : Nat} {m : List Bool} {g : Nat → Value} {p : Nat} {ds : List (Option Nat)} (d : Nat) (op : Op) (t : TypeId) {v : Value} (hwf : poWf it olds = true) (hJ : JG it olds N m g w) (hit : it.getD p .nil = .val v) (hE : Keep bs w0 w)
   (ho : ops[i]? = some o) (hd : o.dst = some d) (hds : ds.getD p none = some d) (hop : o.op = op) (ht : o.type = t) (hw : Region.wanted o (yielded ops a.tmps) = true) (hx : (execOp a.eval (mkOp op t)).run P w = .ok (.value v) w) :
   wpOp P ops Q i (fun a' w' => Keep bs w0 w' ∧ ∃ v, a' = a.put (ds.getD p none) v ∧ JG it olds N (m.set p true) (upd g p v) w') a w := by
 refine wpOp_step ho fun K' hK => ?_
 rw [if_pos hw]
 unfold Oper.wp
 rw [exec_mkOp, hop, ht, hx]
 exact hK _ _ ⟨hE, v, by rw [hd, hds], hJ.val hwf hit (Below.refl _ _)⟩
theorem po_alloc {bs : List Nat} {w0 : World} {i : Nat} {a : Act} {w : World} {o : Oper} {it : List PI} {olds : List Old} {N : Nat} {m : List Bool} {g : Nat → Value} {p : Nat} {ds : List (Option Nat)} (d : Nat) (t ty : TypeId) (k : Nat) (f0 : Nat → Value) (s : Nat) (f1 : Nat → Value) (hwf : poWf it olds = true) (hJ : JG it olds N m g w) (hit : it.getD p .nil = .row ty k f0 s f1) (hs : m.getD s false = false) (hE : Keep bs w0 w)
   (ho : ops[i]? = some o) (hd : o.dst = some d) (hds : ds.getD p none = some d) (hop : o.op = .alloc ty) (ht : o.type = t) (hw : Region.wanted o (yielded ops a.tmps) = true) (hz : (P.info? ty).map (fun i => i.zero) = some (some (.agg (arrOf k f0)))) :
   wpOp P ops Q i (fun a' w' => Keep bs w0 w' ∧ ∃ v, a' = a.put (ds.getD p none) v ∧ JG it olds N (m.set p true) (upd g p v) w') a w := by
 refine wpOp_step ho fun K' hK => ?_
 rw [if_pos hw]
 unfold Oper.wp
 rw [exec_mkOp, hop, ht, exec_alloc_arr _ _ _ _ hz]
 exact hK _ _ ⟨hE.trans (Keep.of ((Below.refl _ _).alloc (Nat.le_refl _) _)), _, by rw [hd, hds], hJ.alloc hwf hit hs⟩
theorem po_storeRow {bs : List Nat} {w0 : World} {i : Nat} {a : Act} {w : World} {o : Oper} {it : List PI} {olds : List Old} {m : List Bool} {g : Nat → Value} {p : Nat} {ds : List (Option Nat)} (r : Nat) (x y : Operand) (ty : TypeId) (k : Nat) (f0 : Nat → Value) (f1 : Nat → Value) (hp : p < m.length) (hmp : m.getD p true = false) (hJ : JG it olds w0.heap.size m g w) (hit : (it.getD p .nil).isNil = true) (hr : it.getD r .nil = .row ty k f0 p f1) (hmr : m.getD r false = true)
   (hone : oneB it p r = true) (holds : ∀ i, (h : i < olds.length) → olds[i].s ≠ p ∧ olds[i].b < w0.heap.size) (hE : Keep bs w0 w)
   (ho : ops[i]? = some o) (hd : o.dst = none) (hds : ds.getD p none = none) (hop : o.op = .store ty x y) (hw : Region.wanted o (yielded ops a.tmps) = true) (hx : a.eval x = g r) (hy : a.eval y = .agg (arrOf k f1)) (ht : IsArr P ty k) (h1 : ∀ j, j < k → (f1 j).oneCell' = true) :
   wpOp P ops Q i (fun a' w' => Keep bs w0 w' ∧ ∃ v, a' = a.put (ds.getD p none) v ∧ JG it olds w0.heap.size (m.set p true) (upd g p v) w') a w := by
 have hf := hJ.items r hmr
 rw [hr] at hf
 obtain ⟨b, k1, k2, k3⟩ := hf
 have hmp' : m.getD p false = false := by
   rw [List.getD_eq_getElem?_getD, List.getElem?_eq_getElem hp] at hmp ⊢
   exact hmp
 rw [hmp', if_neg (by decide)] at k3
 obtain ⟨w', hx', e1, e2, e3⟩ := exec_store_arr (P := P) a.eval ty x y o.type (off := 0) k3 (hx.trans k1) hy ht (by omega) h1
 have e1' : w'.rowIs b ty k f1 := e1.congr fun i hi => by unfold putN; rw [if_pos (by omega), Nat.sub_zero]
 refine wpOp_step ho fun K' hK => ?_
 rw [if_pos hw]
 unfold Oper.wp
 rw [exec_mkOp, hop, hx']
 exact hK _ _ ⟨hE.of_grown e2 (.inl k2), undef, by rw [hd, hds], hJ.storeRow hp hit hr hmr k1 e2 e1' (fun q ty k f0 f1 hq => oneB_spec hone q ty k f0 f1 hq) holds⟩
theorem po_storeOld {bs : List Nat} {w0 : World} {i : Nat} {a : Act} {w : World} {o : Oper} {it : List PI} {olds : List Old} {m : List Bool} {g : Nat → Value} {p : Nat} {ds : List (Option Nat)} (j : Nat) (x y : Operand) (ty : TypeId) (b k : Nat) (f1 : Nat → Value) (hp : p < m.length) (hmp : m.getD p true = false) (hJ : JG it olds w0.heap.size m g w) (hit : (it.getD p .nil).isNil = true)
   (hj : j < olds.length) (hs : olds[j].s = p) (hbb : olds[j].b = b) (htt : olds[j].ty = ty) (hkk : olds[j].k = k) (hff : olds[j].f1 = f1) (hbN : b < w0.heap.size) (hbs : bs.contains b = true)
   (hone : oneB it p it.length = true) (holds : ∀ i, (h : i < olds.length) → i ≠ j → olds[i].s ≠ p ∧ olds[i].b ≠ olds[j].b) (hE : Keep bs w0 w)
   (ho : ops[i]? = some o) (hd : o.dst = none) (hds : ds.getD p none = none) (hop : o.op = .store ty x y) (hw : Region.wanted o (yielded ops a.tmps) = true) (hx : a.eval x = .pointer (some ⟨b, 0, none⟩)) (hy : a.eval y = .agg (arrOf k f1)) (ht : IsArr P ty k) (h1 : ∀ j, j < k → (f1 j).oneCell' = true) :
   wpOp P ops Q i (fun a' w' => Keep bs w0 w' ∧ ∃ v, a' = a.put (ds.getD p none) v ∧ JG it olds w0.heap.size (m.set p true) (upd g p v) w') a w := by
 have hmp' : m.getD p false = false := by
   rw [List.getD_eq_getElem?_getD, List.getElem?_eq_getElem hp] at hmp ⊢
   exact hmp
 have k3 := hJ.olds j hj
 rw [hs, hmp', if_neg (by decide), hbb, htt, hkk] at k3
 obtain ⟨w', hx', e1, e2, e3⟩ := exec_store_arr (P := P) a.eval ty x y o.type (off := 0) k3 hx hy ht (by omega) h1
 have e1' : w'.rowIs b ty k f1 := e1.congr fun i hi => by unfold putN; rw [if_pos (by omega), Nat.sub_zero]
 refine wpOp_step ho fun K' hK => ?_
 rw [if_pos hw]
 unfold Oper.wp
 rw [exec_mkOp, hop, hx']
 refine hK _ _ ⟨hE.of_grown e2 (.inr hbs), undef, by rw [hd, hds], ?_⟩
 refine hJ.storeOld hp hit hj hs (by rw [hbb]; exact hbN) (by rw [hbb]; exact e2) (by rw [hbb, htt, hkk, hff]; exact e1') (fun q ty k f0 f1 hq => ?_) holds
 have e4 := oneB_spec hone q ty k f0 f1 hq
 rw [e4, List.getD_eq_getElem?_getD, List.getElem?_eq_none (Nat.le_refl _)] at hq
 cases hq
theorem exec_load_as {w : World} (ρ : Operand → Value) (ty : TypeId) (x : Operand) (t : TypeId) {k b m off : Nat} {t' : TypeId} {f : Nat → Value} (F : Nat → Value) (hx : ρ x = .pointer (some ⟨b, off, none⟩)) (ht : IsArr P ty k) (hr : w.rowIs b t' m f) (hk : off + k ≤ m) (hF : ∀ i, i < k → f (off + i) = F i) :
   (execOp ρ (mkOp (.load ty x) t)).run P w = .ok (.value (.agg (arrOf k F))) w := by
 rw [exec_load_arr ρ ty x t hx ht hr hk, arrOf_congr hF]
end
end Go.Proofs.YtonhpmaiagbheaaGreat
namespace Go.Proofs.YtonhpmaiagbheaaGreat
open Go.RowKit Go.Deep
section
variable {P : Program} {ops : Array Oper} {rest : List Oper} {o : Oper} {a : Act} {w : World} {Q : Exit → Act → World → Prop}
theorem wpList_alloc_row (hgd : o.guard = none) (ty : TypeId) (ho : o.op = .alloc ty) (k : Nat) (f : Nat → Value) (hz : (P.info? ty).map (fun i => i.zero) = some (some (.agg (arrOf k f))))
   (h : ∀ b w', w.heap.size ≤ b → w'.rowIs b ty k f → Below w.heap.size w w' → wpList P ops Q rest (a.put o.dst (.pointer (some ⟨b, 0, none⟩))) w') : wpList P ops Q (o :: rest) a w :=
 wpList_alloc_arr hgd ty ho (arrOf k f) hz (h _ _ (Nat.le_refl _) (rowIs_arr _ _ _ _) ((Below.refl _ _).alloc (Nat.le_refl _) _))
theorem wpList_box_row (hgd : o.guard = none) (ty : TypeId) (x : Operand) (ho : o.op = .box ty x) (k : Nat) (f : Nat → Value) (hx : a.eval x = .agg (arrOf k f))
   (h : ∀ b w', w.heap.size ≤ b → w'.rowIs b ty k f → Below w.heap.size w w' → wpList P ops Q rest (a.put o.dst (.pointer (some ⟨b, 0, none⟩))) w') : wpList P ops Q (o :: rest) a w :=
 wpList_plain hgd fun _ hK => by
   unfold Oper.wp execOp
   simp [ho, hx, Instr.box, newVar, newRow, newObj, Value.cells, Result.andThen]
   exact hK _ _ (h _ _ (Nat.le_refl _) (rowIs_arr _ _ _ _) ((Below.refl _ _).alloc (Nat.le_refl _) _))
theorem wpList_load_as (hgd : o.guard = none) (ty : TypeId) (x : Operand) (ho : o.op = .load ty x) (k : Nat) (F : Nat → Value) (ht : IsArr P ty k) {b m off : Nat} {t : TypeId} {f : Nat → Value}
   (hr : w.rowIs b t m f) (hx : a.eval x = .pointer (some ⟨b, off, none⟩)) (hk : off + k ≤ m) (hF : ∀ i, i < k → f (off + i) = F i) (h : wpList P ops Q rest (a.put o.dst (.agg (arrOf k F))) w) : wpList P ops Q (o :: rest) a w :=
 wpList_load_arr hgd ty x ho k ht hr hx hk (by rw [arrOf_congr hF]; exact h)
theorem wpList_store_as (hgd : o.guard = none) (ty : TypeId) (x y : Operand) (ho : o.op = .store ty x y) (k : Nat) (F : Nat → Value) (ht : IsArr P ty k) {b m off : Nat} {t : TypeId} {f g : Nat → Value}
   (hr : w.rowIs b t m f) (hx : a.eval x = .pointer (some ⟨b, off, none⟩)) (hy : a.eval y = .agg (arrOf k g)) (hk : off + k ≤ m) (h1 : ∀ j, j < k → (g j).oneCell' = true) (hF : ∀ i, i < m → putN f off k g i = F i)
   (h : ∀ w', w'.rowIs b t m F → w.grownBy w' (some b) → wpList P ops Q rest (a.put o.dst undef) w') : wpList P ops Q (o :: rest) a w :=
 wpList_store_arr hgd ty x y ho k ht hr hx hy hk h1 fun w' h1 h2 _ => h w' (h1.congr hF) h2
theorem putN_whole {f g : Nat → Value} {k i : Nat} (h : i < k) : putN f 0 k g i = g i := by
 unfold putN
 rw [if_pos (by omega), Nat.sub_zero]
theorem ret_cell_as {fn : Func} {R : Ending → World → Prop} {p : Tmp} {ty : TypeId} {k b m : Nat} {t : TypeId} {f : Nat → Value} (F : Nat → Value) (h : fn.results = #[.cell p ty]) (ht : IsArr P ty k)
   (hr : w.rowIs b t m f) (hp : a.tmps.getD p undef = .pointer (some ⟨b, 0, none⟩)) (hk : k ≤ m) (hF : ∀ i, i < k → f i = F i) (hd : a.defers = []) (hR : R (.returned (.agg (arrOf k F))) w) : bodyPost P fn R .ret a w :=
 ret_cell_arr h ht hr hp (by omega) hd (by rw [arrOf_congr (g := F) fun i hi => by rw [Nat.zero_add]; exact hF i hi]; exact hR)
end
theorem po_notyet {deps : List (List Nat)} {m : List Bool} {p s : Nat} (hcl : closedO deps m = true) (hmp : m.getD p true = false) (hp : p < m.length) (hq : p ∈ deps.getD s []) : m.getD s false = false := by
 cases h : m.getD s false with
 | false => rfl
 | true =>
   have h1 := closedO_spec hcl h hq
   rw [List.getD_eq_getElem?_getD, List.getElem?_eq_getElem hp] at hmp h1
   have h2 : m[p] = false := hmp
   have h3 : m[p] = true := h1
   rw [h2] at h3
   cases h3
theorem eval_const (a : Act) (v : Value) : a.eval (.const v) = v := rfl
theorem cont1 {b x : Nat} (h : b ≠ x) : [x].contains b = false := by simp [h]
theorem cont2 {b x y : Nat} (h : b ≠ x) (k : b ≠ y) : [x, y].contains b = false := by simp [h, k]
theorem exec_build_as {P : Program} {w : World} (ρ : Operand → Value) (ty t : TypeId) {parts : Array (Nat × Operand)} {c : Array Value} (h : P.built ty (parts.map fun (i, x) => (i, ρ x)).toList = some c) :
   (execOp ρ (mkOp (.build ty parts) t)).run P w = .ok (.value (.agg c)) w := by
 have hr := run_build w ty (parts.map fun (i, x) => (i, ρ x)) c h
 simp [execOp, mkOp, hr, Result.andThen]
theorem po_olds2 {o1 o2 : Old} {w : World} (h1 : w.rowIs o1.b o1.ty o1.k o1.f0) (h2 : w.rowIs o2.b o2.ty o2.k o2.f0) : ∀ i, (h : i < [o1, o2].length) → w.rowIs [o1, o2][i].b [o1, o2][i].ty [o1, o2][i].k [o1, o2][i].f0
 | 0, _ => h1
 | 1, _ => h2
 | _ + 2, h => by simp at h; omega
theorem po_ne1 {o1 : Old} {p b : Nat} : ∀ i, (h : i < [o1].length) → i ≠ 0 → [o1][i].s ≠ p ∧ [o1][i].b ≠ b
 | 0, _ => fun h => absurd rfl h
 | _ + 1, h => by simp at h
theorem po_ne2a {o1 o2 : Old} {p b : Nat} (h1 : o2.s ≠ p) (h2 : o2.b ≠ b) : ∀ i, (h : i < [o1, o2].length) → i ≠ 0 → [o1, o2][i].s ≠ p ∧ [o1, o2][i].b ≠ b
 | 0, _ => fun h => absurd rfl h
 | 1, _ => fun _ => ⟨h1, h2⟩
 | _ + 2, h => by simp at h; omega
theorem po_ne2b {o1 o2 : Old} {p b : Nat} (h1 : o1.s ≠ p) (h2 : o1.b ≠ b) : ∀ i, (h : i < [o1, o2].length) → i ≠ 1 → [o1, o2][i].s ≠ p ∧ [o1, o2][i].b ≠ b
 | 0, _ => fun _ => ⟨h1, h2⟩
 | 1, _ => fun h => absurd rfl h
 | _ + 2, h => by simp at h; omega
end Go.Proofs.YtonhpmaiagbheaaGreat
namespace Go.Proofs.YtonhpmaiagbheaaGreat
open Go.RowKit Go.Deep
theorem Owns.set {w : World} {base g cap j n : Nat} {l : List UInt8} (h : Owns w base (.slice (some ⟨g, 0, none⟩) n cap) l) (hn : n = l.length) (x : UInt8) :
   Owns (w.setCell ⟨g, j, none⟩ (.int .u8 (x.toNat : Int))) base (.slice (some ⟨g, 0, none⟩) n cap) (l.set j x) := by
 subst hn
 have h1 := (World.ownsRow.stored h j (.int .u8 (x.toNat : Int))).1
 have e : (u8s l).set j (.int .u8 (x.toNat : Int)) = u8s (l.set j x) := by simp [u8s, List.map_set]
 unfold Owns
 rw [List.length_set, ← e]
 exact h1
theorem Owns.open_cons {w : World} {base : Nat} {v : Value} {l : List UInt8} (h : Owns w base v l) (hne : 0 < l.length) :
   ∃ g cap, v = .slice (some ⟨g, 0, none⟩) l.length cap ∧ base ≤ g ∧ g < w.heap.size ∧ (∀ i (hi : i < l.length), w.cell? ⟨g, i, none⟩ = some (.int .u8 ((l[i]).toNat : Int))) ∧ ∀ i, w.frozen? ⟨g, i, none⟩ = false := by
 have h0 := h
 obtain ⟨_, h2⟩ := h
 rcases h2 with ⟨_, hn⟩ | ⟨g, cap, cur, rfl, hb, hg, _⟩
 · omega
 · refine ⟨g, cap, rfl, hb, (Array.getElem?_eq_some_iff.1 hg).1, fun i hi => ?_, fun i => World.ownsRow.frozenAt h0 i⟩
   have := World.ownsRow.cellAt h0 i (by omega)
   rw [this]
   simp [u8s, hi]
end Go.Proofs.YtonhpmaiagbheaaGreat
namespace Go.Proofs.YtonhpmaiagbheaaGreat
open Go.RowKit Go.Deep
theorem Owns.of_row {w : World} {base b n : Nat} {f : Nat → Value} {l : List UInt8} (h : w.rowIs b 5 n f) (hb : base ≤ b) (hm : n ≤ maxLen) (hl : l.length = n) (hf : ∀ i, (h : i < l.length) → f i = .int .u8 ((l[i].toNat : Nat) : Int)) : Owns w base (.slice (some ⟨b, 0, none⟩) n n) l := by
 obtain ⟨c, h1, h2, h3⟩ := h
 subst hl
 refine ⟨by rw [u8s_length, Nat.mul_one], .inr ⟨b, l.length, c, rfl, hb, h1, Nat.le_refl _, hm, by rw [h2, Nat.mul_one], ?_⟩⟩
 refine List.ext_getElem? fun i => ?_
 rw [Nat.mul_one]
 by_cases hi : i < l.length
 · rw [List.getElem?_take_of_lt hi, Array.getElem?_toList, h3 i hi, hf i hi]
   simp [u8s, hi]
 · rw [List.getElem?_eq_none (by simp [h2]; omega), List.getElem?_eq_none (by rw [u8s_length]; omega)]
theorem Keep.nil {w w' : World} (h : Keep [] w w') : Below w.heap.size w w' := ⟨h.os, h.tape, h.output, h.size, fun k hk => h.block k hk rfl⟩
section
variable {P : Program} {ops : Array Oper} {Q : Exit → Act → World → Prop}
theorem wanted_of {o : Oper} {a : Act} {j d : Nat} {b : Bool} (hg : o.guard = some (j, b)) (hj : (ops[j]?).bind (·.dst) = some d) (he : a.eval (.tmp d) = .bool b) : Region.wanted o (yielded ops a.tmps) = true := by
 have hy : yielded ops a.tmps j = some b := by
   unfold yielded
   rw [hj, Option.bind_some]
   have h1 : a.tmps.getD d undef = .bool b := he
   rw [Array.getD_eq_getD_getElem?] at h1
   cases hx : a.tmps[d]? with
   | none => rw [hx] at h1; cases h1
   | some v =>
     rw [hx] at h1
     have h2 : v = .bool b := h1
     rw [h2]
 simp [Region.wanted, hg, hy]
theorem wanted_not {o : Oper} {a : Act} {j d : Nat} {b c : Bool} (hg : o.guard = some (j, b)) (hj : (ops[j]?).bind (·.dst) = some d) (he : a.eval (.tmp d) = .bool c) (hbc : (c == b) = false := by rfl) : Region.wanted o (yielded ops a.tmps) = false := by
 have hy : yielded ops a.tmps j = some c := by
   unfold yielded
   rw [hj, Option.bind_some]
   have h1 : a.tmps.getD d undef = .bool c := he
   rw [Array.getD_eq_getD_getElem?] at h1
   cases hx : a.tmps[d]? with
   | none => rw [hx] at h1; cases h1
   | some v =>
     rw [hx] at h1
     have h2 : v = .bool c := h1
     rw [h2]
 simp only [Region.wanted, hg, hy]
 cases b <;> cases c <;> simp_all
theorem po_skip {bs : List Nat} {w0 : World} {i : Nat} {a : Act} {w : World} {o : Oper} {it : List PI} {olds : List Old} {N : Nat} {m : List Bool} {g : Nat → Value} {p : Nat} {ds : List (Option Nat)} (d : Nat) (hwf : poWf it olds = true) (hJ : JG it olds N m g w) (hit : it.getD p .nil = .val undef) (hE : Keep bs w0 w)
   (ho : ops[i]? = some o) (hd : o.dst = some d) (hds : ds.getD p none = some d) (hw : Region.wanted o (yielded ops a.tmps) = false) :
   wpOp P ops Q i (fun a' w' => Keep bs w0 w' ∧ ∃ v, a' = a.put (ds.getD p none) v ∧ JG it olds N (m.set p true) (upd g p v) w') a w := by
 refine wpOp_step ho fun K' hK => ?_
 rw [if_neg (by rw [hw]; decide)]
 exact hK _ _ ⟨hE, undef, by rw [hd, hds], hJ.val hwf hit (Below.refl _ _)⟩
theorem JG.own {it : List PI} {olds : List Old} {N : Nat} {m : List Bool} {g : Nat → Value} {w : World} (h : JG it olds N m g w) {p : Nat} (hp : m.getD p false = true) {l : List UInt8} {u : Nat} (hit : it.getD p .nil = .own l u) (hu : m.getD u false = false) : Owns w N (g p) l := by
 have hf := h.items p hp
 rw [hit] at hf
 exact hf hu
end
theorem Owns.rowOf {w : World} {base g n cap : Nat} {l : List UInt8} (h : Owns w base (.slice (some ⟨g, 0, none⟩) n cap) l) : ∃ f, w.rowIs g 5 cap f := by
 obtain ⟨_, h2⟩ := h
 rcases h2 with ⟨h2, _⟩ | ⟨g', cap', cur, h2, _, h4, h5, _, h7, _⟩
 · cases h2
 · injection h2 with e1 e2 e3
   injection e1 with e1
   injection e1 with e1
   subst e1; subst e3
   refine ⟨fun i => cur.getD i undef, cur, h4, by rw [h7, Nat.mul_one], fun i hi => ?_⟩
   show cur[i]? = some (cur.getD i undef)
   rw [Array.getD_eq_getD_getElem?, Array.getElem?_eq_getElem (by omega)]
   rfl
theorem Owns.cellAt {w : World} {base g n cap : Nat} {l : List UInt8} (h : Owns w base (.slice (some ⟨g, 0, none⟩) n cap) l) (hn : n = l.length) (j : Nat) (hj : j < l.length) : w.cell? ⟨g, j, none⟩ = some (.int .u8 ((l[j].toNat : Nat) : Int)) := by
 subst hn
 have := World.ownsRow.cellAt h j (by omega)
 rw [this]
 simp [u8s, hj]
theorem wpList_store_byte {ops : Array Oper} {rest : List Oper} {o : Oper} {a : Act} {w : World} {Q : Exit → Act → World → Prop} (hgd : o.guard = none) (x y : Operand) (ho : o.op = .store 5 x y) {base g n cap : Nat} (j b : Nat) {l : List UInt8} (hown : Owns w base (.slice (some ⟨g, 0, none⟩) n cap) l) (hn : n = l.length) (hnc : n ≤ cap) (hj : j < l.length)
   (hx : a.eval x = .pointer (some ⟨g, j, none⟩)) (hy : a.eval y = .int .u8 (b : Int)) (hb : b < 256) (h : ∀ w', Owns w' base (.slice (some ⟨g, 0, none⟩) n cap) (l.set j (UInt8.ofNat b)) → w.grownBy w' (some g) → wpList Tryz.prog ops Q rest (a.put o.dst undef) w') : wpList Tryz.prog ops Q (o :: rest) a w := by
 obtain ⟨f, hr⟩ := hown.rowOf
 have hx' := exec_store_cell (P := Tryz.prog) a.eval 5 x y o.type hr hx hy (by kernel_rfl) rfl rfl (by omega)
 have e : ((UInt8.ofNat b).toNat : Int) = (b : Int) := by rw [UInt8.toNat_ofNat_of_lt' (show b < 256 from hb)]
 have h1 := Owns.set (j := j) hown hn (UInt8.ofNat b)
 rw [e] at h1
 exact wpList_plain hgd fun _ hK => by
   unfold Oper.wp
   rw [exec_mkOp, ho, hx']
   exact hK _ _ (h _ h1 (grownBy_set _ _ _ _))
theorem wpList_load_byte {ops : Array Oper} {rest : List Oper} {o : Oper} {a : Act} {w : World} {Q : Exit → Act → World → Prop} (hgd : o.guard = none) (x : Operand) (ho : o.op = .load 5 x) {base g n cap : Nat} (j b : Nat) {l : List UInt8} (hown : Owns w base (.slice (some ⟨g, 0, none⟩) n cap) l) (hn : n = l.length) (hj : j < l.length)
   (hx : a.eval x = .pointer (some ⟨g, j, none⟩)) (hb : (l[j].toNat : Nat) = b) (h : wpList Tryz.prog ops Q rest (a.put o.dst (.int .u8 (b : Int))) w) : wpList Tryz.prog ops Q (o :: rest) a w := by
 have hc := hown.cellAt hn j hj
 rw [hb] at hc
 refine wpList_value hgd _ ?_ h
 rw [exec_mkOp, ho]
 exact exec_load_cell a.eval 5 x o.type hx (by kernel_rfl) hc
end Go.Proofs.YtonhpmaiagbheaaGreat
namespace Go.Proofs.YtonhpmaiagbheaaGreat
open Go.RowKit Go.Deep
theorem zA {α : Type _} {l : List α} {i : Nat} {a : α} : l.toArray.setIfInBounds i a = (l.set i a).toArray := List.setIfInBounds_toArray l i a
theorem zB {α : Type _} {a b : α} {l : List α} : (a :: l).set 0 b = b :: l := rfl
theorem zC {α : Type _} {a b : α} {l : List α} {n : Nat} : (a :: l).set (n + 1) b = a :: l.set n b := rfl
theorem zrb {w w' : World} {b : Nat} {t : TypeId} {n : Nat} {f : Nat → Value} (h : w.rowIs b t n f) (k : Below w.heap.size w w') : w'.rowIs b t n f := World.rowIs.of_block h (k.block _ (World.rowIs.lt h))
theorem zrn {w : World} {b b' : Nat} {t : TypeId} {n : Nat} {f : Nat → Value} (h : w.rowIs b t n f) (lk : w.heap.size ≤ b') : b ≠ b' := Nat.ne_of_lt (Nat.lt_of_lt_of_le (World.rowIs.lt h) lk)
theorem zrl {W w : World} {b : Nat} (H : Hid (∀ wq : World, Below W.heap.size W wq → W.heap.size ≤ wq.heap.size)) (B : Below W.heap.size W w) (lk : w.heap.size ≤ b) : W.heap.size ≤ b := Nat.le_trans (H.out _ B) lk
theorem zbt {W w w' : World} (H : Hid (∀ wq : World, Below W.heap.size W wq → W.heap.size ≤ wq.heap.size)) (B : Below W.heap.size W w) (k : Below w.heap.size w w') : Below W.heap.size W w' := B.trans (k.mono (H.out _ B))
theorem zbg {W w w' : World} {b : Nat} (H : Hid (∀ wq : World, Below W.heap.size W wq → W.heap.size ≤ wq.heap.size)) (B : Below W.heap.size W w) (g : w.grownBy w' (some b)) (l : W.heap.size ≤ b) : Below W.heap.size W w' := B.grown g (H.out _ B) (by intro k hk; cases hk; exact l)
theorem zfb {w w' : World} {v : Value} {l : List UInt8} (h : Bs w v l) (k : Below w.heap.size w w') : Bs w' v l := Bs.below h k (Nat.le_refl _)
theorem ar0 {ρ : Operand → Value} : (#[] : Array Operand).map ρ = #[] := by simp
theorem ar1 {ρ : Operand → Value} {x : Operand} {u : Value} (h : ρ x = u) : #[x].map ρ = #[u] := by simp [h]
theorem ar2 {ρ : Operand → Value} {x y : Operand} {u v : Value} (h : ρ x = u) (k : ρ y = v) : #[x, y].map ρ = #[u, v] := by simp [h, k]
theorem ar3 {ρ : Operand → Value} {x y z : Operand} {u v t : Value} (h : ρ x = u) (k : ρ y = v) (l : ρ z = t) : #[x, y, z].map ρ = #[u, v, t] := by simp [h, k, l]
theorem ar5 {ρ : Operand → Value} {x y z p r : Operand} {u v t q s : Value} (h : ρ x = u) (k : ρ y = v) (l : ρ z = t) (m : ρ p = q) (n : ρ r = s) : #[x, y, z, p, r].map ρ = #[u, v, t, q, s] := by simp [h, k, l, m, n]
section
variable {P : Program} {ops : Array Oper} {Q : Exit → Act → World → Prop}
theorem po_start {E : World → World → Prop} {S : List Nat} {ds : List (Option Nat)} {deps : List (List Nat)} {a : Act} {w : World} (it : List PI) (olds : List Old) (hst : ∀ i, (h : i < olds.length) → w.rowIs olds[i].b olds[i].ty olds[i].k olds[i].f0)
   (h1 : poWf it olds = true → ∀ m g w1 p a1, p < S.length → m.length = S.length → m.getD p true = false → closedO deps m = true → (∀ q, q ∈ deps.getD p [] → m.getD q false = true) → E w w1 → JG it olds w.heap.size m g w1 →
     (∀ q d, ds[q]? = some (some d) → m.getD q false = true → d < a.tmps.size → a1.eval (.tmp d) = g q) → (∀ d, ds.contains (some d) = false → a1.eval (.tmp d) = a.eval (.tmp d)) →
     wpOp P ops Q (S.getD p 0) (fun a' w' => E w w' ∧ ∃ v, a' = a1.put (ds.getD p none) v ∧ JG it olds w.heap.size (m.set p true) (upd g p v) w') a1 w1)
   (h2 : ∀ g w1, E w w1 → JG it olds w.heap.size (List.replicate S.length true) g w1 → PoEnd Q (putO ds 0 (List.replicate S.length true) g a) w1) (hwf : poWf it olds = true := by as_aux_lemma => kernel_rfl) : PoZ P ops Q E S ds deps a w :=
 ⟨JG it olds w.heap.size, JG.start (Nat.le_refl _) hst, h1 hwf, h2⟩
theorem JG.tt {it : List PI} {olds : List Old} {N n : Nat} {g : Nat → Value} {w : World} (h : JG it olds N (List.replicate n true) g w) (p : Nat) {v : Value} (hit : it.getD p .nil = .val v) (hp : p < n := by decide) : g p = v := h.told p hp hit
theorem zpo {id : Nat} {a : Act} {w : World} (bs : List Nat) (r1 : Stp) (l1 : Array Bool) (S : List Nat) (ds : List (Option Nat)) (deps : List (List Nat)) (tbl : List (Nat × List Nat)) (M0 : Nat)
   (h : LinZ P ops Q (Keep bs) (fun a1 w1 => PoZ P ops Q (Keep bs) S ds deps a1 w1) r1 a w.drew)
   (hm : P.follows .mixedOrders = true := by as_aux_lemma => kernel_rfl) (hs : Region.noSelect ops = true := by as_aux_lemma => kernel_rfl) (hl : r1.depth + S.length ≤ ops.size := by decide) (hk1 : lintzOk ops l1 r1 (Array.replicate ops.size false) = true := by as_aux_lemma => kernel_rfl) (hk2 : poOk ops S deps l1 tbl M0 = true := by as_aux_lemma => kernel_rfl)
   (hnd : apartO ds = true := by as_aux_lemma => kernel_rfl) (hlen : ds.length = S.length := by rfl) (hQ : ∀ d v c a w, Q (.panic c) (Act.put a d v) w → Q (.panic c) a w := by intro d _ _ _ _ h; cases d <;> exact h) : (Code.region id ops true).wp P Q a w :=
 wp_region_po (Keep bs) (Keep.refl _) (fun _ _ _ h1 h2 => h1.trans h2) r1 l1 S ds deps tbl M0 hm hs hl hk1 hk2 hnd hlen hQ h
theorem mem_of {L : List Nat} {q : Nat} (h : L.contains q = true) : q ∈ L := by simpa using h
theorem po_e0 {a a1 : Act} {ds : List (Option Nat)} {m : List Bool} {g : Nat → Value} {L : List Nat} (hS : ∀ q d, ds[q]? = some (some d) → m.getD q false = true → d < a.tmps.size → a1.eval (.tmp d) = g q) (hdn : ∀ q, q ∈ L → m.getD q false = true) (q d : Nat) (h1 : ds[q]? = some (some d)) (h2 : L.contains q = true) (h3 : Nat.ble (d + 1) a.tmps.size = true) : a1.eval (.tmp d) = g q :=
 hS q d h1 (hdn q (mem_of h2)) (Nat.le_of_ble_eq_true h3)
theorem po_e {a a1 : Act} {ds : List (Option Nat)} {m : List Bool} {g : Nat → Value} {L : List Nat} {it : List PI} {olds : List Old} {N : Nat} {w : World} (hS : ∀ q d, ds[q]? = some (some d) → m.getD q false = true → d < a.tmps.size → a1.eval (.tmp d) = g q) (hdn : ∀ q, q ∈ L → m.getD q false = true) (hJ : JG it olds N m g w) (q d : Nat) {v : Value} (h1 : ds[q]? = some (some d)) (h2 : L.contains q = true) (h3 : Nat.ble (d + 1) a.tmps.size = true) (h4 : it.getD q .nil = .val v) : a1.eval (.tmp d) = v :=
 (po_e0 hS hdn q d h1 h2 h3).trans (hJ.says (hdn q (mem_of h2)) h4)
def fnOk (P : Program) (f : Nat) : Bool := match P.funcs[f]? with
 | some fn => !(fn.name == "runtime.NumGoroutine") && !fn.body.isNone
 | none => false
theorem fnOk_of {f : Nat} (h : fnOk P f = true) : ∃ fn, P.funcs[f]? = some fn ∧ (fn.name == "runtime.NumGoroutine") = false ∧ fn.body.isNone = false := by
 unfold fnOk at h
 cases e : P.funcs[f]? with
 | none => rw [e] at h; cases h
 | some fn =>
   rw [e] at h
   simp only [Bool.and_eq_true, Bool.not_eq_true'] at h
   exact ⟨fn, rfl, h.1, h.2⟩
theorem po_k {bs : List Nat} {w0 : World} {i : Nat} {a : Act} {w : World} {o : Oper} {it : List PI} {olds : List Old} {N : Nat} {m : List Bool} {g : Nat → Value} {p : Nat} {ds : List (Option Nat)} {d f : Nat} {xs : Array Operand} {ts : Array TypeId} {args : Array Value} {v : Value} (hwf : poWf it olds = true) (hJ : JG it olds N m g w) (hE : Keep bs w0 w)
   (hc : Calls P f args w fun e w' => e = .returned v ∧ Below w.heap.size w w') (hit : it.getD p .nil = .val v) (ho : ops[i]? = some o) (hd : o.dst = some d) (hds : ds.getD p none = some d) (hop : o.op = .call { callee := .value (.func f), args := xs, argTypes := ts })
   (hw : Region.wanted o (yielded ops a.tmps) = true) (hargs : xs.map a.eval = args) (hf : fnOk P f = true := by kernel_rfl) :
   wpOp P ops Q i (fun a' w' => Keep bs w0 w' ∧ ∃ v, a' = a.put (ds.getD p none) v ∧ JG it olds N (m.set p true) (upd g p v) w') a w := by
 obtain ⟨fn, f1, f2, f3⟩ := fnOk_of hf
 exact po_call d f xs ts args hwf hJ hit hE hc ho hd hds hop hw f1 f2 f3 hargs
theorem po_p {bs : List Nat} {w0 : World} {i : Nat} {a : Act} {w : World} {o : Oper} {it : List PI} {olds : List Old} {N : Nat} {m : List Bool} {g : Nat → Value} {p : Nat} {ds : List (Option Nat)} {d : Nat} (op : Op) {t : TypeId} {v : Value} (hwf : poWf it olds = true) (hJ : JG it olds N m g w) (hE : Keep bs w0 w)
   (hit : it.getD p .nil = .val v) (ho : ops[i]? = some o) (hd : o.dst = some d) (hds : ds.getD p none = some d) (hop : o.op = op) (ht : o.type = t) (hw : Region.wanted o (yielded ops a.tmps) = true) (hx : (execOp a.eval (mkOp op t)).run P w = .ok (.value v) w) :
   wpOp P ops Q i (fun a' w' => Keep bs w0 w' ∧ ∃ v, a' = a.put (ds.getD p none) v ∧ JG it olds N (m.set p true) (upd g p v) w') a w :=
 po_run d op t hwf hJ hit hE ho hd hds hop ht hw hx
theorem po_sr {bs : List Nat} {w0 : World} {i : Nat} {a : Act} {w : World} {o : Oper} {it : List PI} {m : List Bool} {g : Nat → Value} {p : Nat} {ds : List (Option Nat)} {n : Nat} {L : List Nat} {x y : Operand} {ty : TypeId} {k : Nat} {f0 f1 : Nat → Value} (r : Nat) (hm : m.length = n) (hp : p < n) (hmp : m.getD p true = false) (hdn : ∀ q, q ∈ L → m.getD q false = true) (hJ : JG it [] w0.heap.size m g w) (hE : Keep bs w0 w) (hit : (it.getD p .nil).isNil = true) (hr : it.getD r .nil = .row ty k f0 p f1) (h2 : L.contains r = true)
   (ho : ops[i]? = some o) (hd : o.dst = none) (hds : ds.getD p none = none) (hop : o.op = .store ty x y) (hw : Region.wanted o (yielded ops a.tmps) = true) (hx : a.eval x = g r) (hy : a.eval y = .agg (arrOf k f1)) (ht : IsArr P ty k) (h1 : ∀ j, j < k → (f1 j).oneCell' = true) (hone : oneB it p r = true := by kernel_rfl) :
   wpOp P ops Q i (fun a' w' => Keep bs w0 w' ∧ ∃ v, a' = a.put (ds.getD p none) v ∧ JG it [] w0.heap.size (m.set p true) (upd g p v) w') a w :=
 po_storeRow r x y ty k f0 f1 (by rw [hm]; exact hp) hmp hJ hit hr (hdn r (mem_of h2)) hone (fun i hi => absurd hi (Nat.not_lt_zero _)) hE ho hd hds hop hw hx hy ht h1
theorem x_move {ρ : Operand → Value} {x : Operand} {t : TypeId} {w : World} {v : Value} (h : ρ x = v) : (execOp ρ (mkOp (.move x) t)).run P w = .ok (.value v) w := by simp only [execOp, mkOp, h]; rfl
theorem x_assign {ρ : Operand → Value} {x : Operand} {t : TypeId} {w : World} {v : Value} (h : ρ x = v) : (execOp ρ (mkOp (.assign x) t)).run P w = .ok (.value v) w := by simp only [execOp, mkOp, h]; rfl
theorem zld {bs : List Nat} {K : Act → World → Prop} {i d : Nat} {r : Stp} {a : Act} {w : World} {o : Oper} {ty t' : TypeId} {x : Operand} {k b m off : Nat} {f : Nat → Value} (F : Nat → Value) (ht : IsArr P ty k) (hr : w.rowIs b t' m f) (hc : bs.contains b = false) (hF : ∀ i, i < k → f (off + i) = F i)
   (ho : ops[i]? = some o) (hd : o.dst = some d) (hop : o.op = .load ty x) (hw : Region.wanted o (yielded ops a.tmps) = true) (hx : a.eval x = .pointer (some ⟨b, off, none⟩)) (hk : off + k ≤ m) (h : LinZ P ops Q (Keep bs) K r (a.put (some d) (.agg (arrOf k F))) w) : LinZ P ops Q (Keep bs) K (.rd i r) a w :=
 lintz_pure d _ _ (.agg (arrOf k F)) ho hd hop rfl hw (fun w0 hb => exec_load_as _ _ _ _ F hx ht (Keep.row hb hr hc) hk hF) h
theorem zmv {E : World → World → Prop} {K : Act → World → Prop} {i d : Nat} {r : Stp} {a : Act} {w : World} {o : Oper} {x : Operand} (v : Value) (ho : ops[i]? = some o) (hd : o.dst = some d) (hop : o.op = .move x) (hw : Region.wanted o (yielded ops a.tmps) = true) (hx : a.eval x = v) (h : LinZ P ops Q E K r (a.put (some d) v) w) : LinZ P ops Q E K (.rd i r) a w :=
 lintz_pure d _ _ v ho hd hop rfl hw (fun w0 hb => x_move hx) h
end
end Go.Proofs.YtonhpmaiagbheaaGreat
namespace Go.Proofs.YtonhpmaiagbheaaGreat
open Go.RowKit Go.Deep
section
variable {P : Program} {ops : Array Oper} {Q : Exit → Act → World → Prop}
theorem stp_none {i : Nat} {r : Stp} {a : Act} {w : World} {o : Oper} (d : Nat) (ho : ops[i]? = some o) (hd : o.dst = some d)
   (hw : Region.wanted o (yielded ops a.tmps) = false) (h : LinT P ops Q r (a.put (some d) undef) w) : wpOp P ops Q i (fun a' w' => Below w.heap.size w w' ∧ LinT P ops Q r a' w') a w := by
 refine wpOp_step ho fun K' hK => ?_
 rw [if_neg (by rw [hw]; simp)]
 exact hK _ _ ⟨Below.refl _ _, by rw [hd]; exact h⟩
end
theorem exec_str_neq {w : World} (ρ : Operand → Value) (x y : Operand) (t : TypeId) {l m : List UInt8} (hx : ρ x = .string ⟨l.toArray⟩) (hy : ρ y = .string ⟨m.toArray⟩) :
   (execOp ρ (mkOp (.binOp .neq 9 x y 9) t)).run Tryz.prog w = .ok (.value (.bool (!decide (l = m)))) w := by
 simp only [execOp, mkOp, hx, hy]
 go_simp
 by_cases h : l = m
 · subst h; simp
 · simp [h]
def strictL (l : List UInt8) : Option Nat := if l.length = 32 ∧ (l.getD 31 0).toNat ≤ 127 ∧ litB (ofL l) 32 = l then some (ofL l) else none
def strictE (o : Option Nat) : Int := if o.isSome then 0 else 2
set_option maxHeartbeats 4000000 in
theorem refStrict_any (v : Value) (l : List UInt8) (w : World) (hv : Bs w v l) : Calls Tryz.prog 95 #[v] w fun e w' =>
   e = .returned (.tuple #[.agg (arrOf 16 (feF ((strictL l).getD 0))), .int .i64 (strictE (strictL l))]) ∧ Below w.heap.size w w' := by
 obtain ⟨a, n, cap, rfl, hn, hc1, hc2, hB0⟩ := hv.shape
 have hRr := rowIs_arr w 16 (u64f fun _ => 0) 61
 have hBel : Below w.heap.size w (w.alloc (.cells (arrOf 16 (u64f fun _ => 0)) 61)) := (Below.refl _ _).alloc (Nat.le_refl _) _
 have HV := hB0.below hBel (Nat.le_refl _)
 have HN := Lib.hid hn
 clear hv hB0 hn
 go_enter Tryz.func95, Tryz.ntmps95
 go_wp2_with (refine wpList_alloc_arr rfl 61 rfl (arrOf 16 (u64f fun _ => 0)) zeroFe ?_)
 generalize w.alloc (.cells (arrOf 16 (u64f fun _ => 0)) 61) = w1 at *
 replace hRr := World.rowIs.drew hRr
 replace hBel := Below.drew hBel
 replace HV : Bs w1.drew (.slice a n cap) l := HV
 by_cases h32 : (n : Int) = 32
 rotate_left
 focus
   have hL : strictL l = none := by
     unfold strictL
     rw [if_neg (fun h => h32 (by have := HN.out; omega))]
   have HL := Lib.hid hL
   clear hL HV
   refine wp_region_lint (.rd 0 (.rd 1 (.rd 2 (.rd 3 (.rd 4 (.rd 5 (.rd 6 (.rd 7 (.rd 8 (.rd 9 (.rd 10 (.rd 14 (.rd 15 (.wr 11 (.wr 12 (.rd 13 (.rd 16 (.rd 17 .done)))))))))))))))))) (by kernel_rfl) (by kernel_rfl) (by decide) (by kernel_rfl) (fun d _ _ _ _ h => by cases d <;> exact h) ?_
   refine lint_pure 4 (Op.move (Operand.tmp 0)) 22 _ rfl rfl rfl rfl rfl (fun w0 hb0 => by unfold mkOp; go_simp; all_goals (with_reducible rfl)) ?_
   simp only [Act.put, List.setIfInBounds_toArray, List.set_cons_zero, List.set_cons_succ]
   refine lint_pure 5 (Op.call { callee := Callee.builtin Builtin.len, args := #[Operand.tmp 4], argTypes := #[22] }) 3 _ rfl rfl rfl rfl rfl (fun w0 hb0 => by unfold mkOp; go_simp; all_goals (with_reducible rfl)) ?_
   simp only [Act.put, List.setIfInBounds_toArray, List.set_cons_zero, List.set_cons_succ]
   refine lint_pure 6 (Op.binOp BinOp.neq 3 (Operand.tmp 5) (Operand.const (Value.int IntKind.i64 32)) 3) 4 (.bool true) rfl rfl rfl rfl rfl (fun w0 hb0 => by unfold mkOp; go_simp; all_goals (first | (with_reducible rfl) | simp [h32])) ?_
   simp only [Act.put, List.setIfInBounds_toArray, List.set_cons_zero, List.set_cons_succ]
   refine lint_pure 7 (Op.move (Operand.tmp 6)) 4 _ rfl rfl rfl rfl rfl (fun w0 hb0 => by unfold mkOp; go_simp; all_goals (with_reducible rfl)) ?_
   simp only [Act.put, List.setIfInBounds_toArray, List.set_cons_zero, List.set_cons_succ]
   refine lint_none 8 rfl rfl rfl ?_
   simp only [Act.put, List.setIfInBounds_toArray, List.set_cons_zero, List.set_cons_succ]
   refine lint_none 9 rfl rfl rfl ?_
   simp only [Act.put, List.setIfInBounds_toArray, List.set_cons_zero, List.set_cons_succ]
   refine lint_none 10 rfl rfl rfl ?_
   simp only [Act.put, List.setIfInBounds_toArray, List.set_cons_zero, List.set_cons_succ]
   refine lint_none 11 rfl rfl rfl ?_
   simp only [Act.put, List.setIfInBounds_toArray, List.set_cons_zero, List.set_cons_succ]
   refine lint_pure 12 (Op.pick (Operand.tmp 7) (Operand.const (Value.bool true)) (Operand.tmp 11)) 4 _ rfl rfl rfl rfl rfl (fun w0 hb0 => by unfold mkOp; go_simp; all_goals (with_reducible rfl)) ?_
   simp only [Act.put, List.setIfInBounds_toArray, List.set_cons_zero, List.set_cons_succ]
   refine lint_pure 13 (Op.move (Operand.tmp 12)) 4 _ rfl rfl rfl rfl rfl (fun w0 hb0 => by unfold mkOp; go_simp; all_goals (with_reducible rfl)) ?_
   simp only [Act.put, List.setIfInBounds_toArray, List.set_cons_zero, List.set_cons_succ]
   refine lint_none 14 rfl rfl rfl ?_
   simp only [Act.put, List.setIfInBounds_toArray, List.set_cons_zero, List.set_cons_succ]
   refine lint_none 18 rfl rfl rfl ?_
   simp only [Act.put, List.setIfInBounds_toArray, List.set_cons_zero, List.set_cons_succ]
   refine lint_none 19 rfl rfl rfl ?_
   simp only [Act.put, List.setIfInBounds_toArray, List.set_cons_zero, List.set_cons_succ]
   refine stp_none 15 rfl rfl rfl ?_
   simp only [Act.put, List.setIfInBounds_toArray, List.set_cons_zero, List.set_cons_succ]
   refine stp_none 16 rfl rfl rfl ?_
   simp only [Act.put, List.setIfInBounds_toArray, List.set_cons_zero, List.set_cons_succ]
   refine lint_none 17 rfl rfl rfl ?_
   simp only [Act.put, List.setIfInBounds_toArray, List.set_cons_zero, List.set_cons_succ]
   refine lint_none 20 rfl rfl rfl ?_
   simp only [Act.put, List.setIfInBounds_toArray, List.set_cons_zero, List.set_cons_succ]
   refine lint_pure 21 (Op.pick (Operand.tmp 13) (Operand.const (Value.bool true)) (Operand.tmp 20)) 4 _ rfl rfl rfl rfl rfl (fun w0 hb0 => by unfold mkOp; go_simp; all_goals (with_reducible rfl)) ?_
   simp only [Act.put, List.setIfInBounds_toArray, List.set_cons_zero, List.set_cons_succ]
   refine lint_end ?_
   go_wp2_with (first
     | (refine wpList_build_arr rfl 61 _ rfl (arrOf 16 (feF 0)) (by kernel_rfl) ?_)
     | (refine wpList_store_arr rfl 61 (.tmp 2) (.tmp 22) rfl 16 arrFe hRr rfl rfl (by omega) (fun _ _ => rfl) ?_; intro wz hrz hgz hsz))
   refine ret_cell_arr_tmp rfl arrFe hrz rfl rfl (by omega) rfl ⟨?_, hBel.grown hgz hBel.size (by intro k hk; cases hk; exact Nat.le_refl _)⟩
   rw [agg_put, HL.out]
   show Ending.returned (.tuple #[.agg (arrOf 16 (feF 0)), .int .i64 2]) = Ending.returned (.tuple #[.agg (arrOf 16 (feF 0)), .int .i64 2])
   rfl
 obtain rfl : n = 32 := by omega
 clear h32
 obtain ⟨b, off, cap', he, _, _, hbl, hc⟩ := HV.open_n HN.out (by omega)
 cases he
 have hc31 := hc 31 (by rw [HN.out]; omega)
 rw [← getD_at l 31 (by rw [HN.out]; omega)] at hc31
 obtain ⟨x, hx⟩ : ∃ x, x = l.getD 31 0 := ⟨_, rfl⟩
 rw [← hx] at hc31
 have HX := Lib.hid hx
 clear hc hx
 by_cases hx127 : (127 : Int) < (x.toNat : Int)
 focus
   have hL : strictL l = none := by
     unfold strictL
     rw [if_neg (fun h => by have := h.2.1; rw [← HX.out] at this; omega)]
   have HL := Lib.hid hL
   clear hL
   refine wp_region_lint (.rd 0 (.rd 1 (.rd 2 (.rd 3 (.rd 4 (.rd 5 (.rd 6 (.rd 7 (.rd 8 (.rd 9 (.rd 10 (.rd 14 (.rd 15 (.wr 11 (.wr 12 (.rd 13 (.rd 16 (.rd 17 .done)))))))))))))))))) (by kernel_rfl) (by kernel_rfl) (by decide) (by kernel_rfl) (fun d _ _ _ _ h => by cases d <;> exact h) ?_
   refine lint_pure 4 (Op.move (Operand.tmp 0)) 22 _ rfl rfl rfl rfl rfl (fun w0 hb0 => by unfold mkOp; go_simp; all_goals (with_reducible rfl)) ?_
   simp only [Act.put, List.setIfInBounds_toArray, List.set_cons_zero, List.set_cons_succ]
   refine lint_pure 5 (Op.call { callee := Callee.builtin Builtin.len, args := #[Operand.tmp 4], argTypes := #[22] }) 3 _ rfl rfl rfl rfl rfl (fun w0 hb0 => by unfold mkOp; go_simp; all_goals (with_reducible rfl)) ?_
   simp only [Act.put, List.setIfInBounds_toArray, List.set_cons_zero, List.set_cons_succ]
   refine lint_pure 6 (Op.binOp BinOp.neq 3 (Operand.tmp 5) (Operand.const (Value.int IntKind.i64 32)) 3) 4 (.bool false) rfl rfl rfl rfl rfl (fun w0 hb0 => by unfold mkOp; go_simp; all_goals (first | (with_reducible rfl) | simp [])) ?_
   simp only [Act.put, List.setIfInBounds_toArray, List.set_cons_zero, List.set_cons_succ]
   refine lint_pure 7 (Op.move (Operand.tmp 6)) 4 _ rfl rfl rfl rfl rfl (fun w0 hb0 => by unfold mkOp; go_simp; all_goals (with_reducible rfl)) ?_
   simp only [Act.put, List.setIfInBounds_toArray, List.set_cons_zero, List.set_cons_succ]
   refine lint_pure 8 (Op.move (Operand.tmp 0)) 22 _ rfl rfl rfl rfl rfl (fun w0 hb0 => by unfold mkOp; go_simp; all_goals (with_reducible rfl)) ?_
   simp only [Act.put, List.setIfInBounds_toArray, List.set_cons_zero, List.set_cons_succ]
   refine lint_pure 9 (Op.indexAddr 22 (Operand.tmp 8) (Operand.const (Value.int IntKind.i64 31))) 0 (.pointer (some ⟨b, off + 31, none⟩)) rfl rfl rfl rfl rfl (fun w0 hb0 => by unfold mkOp; go_simp; all_goals (with_reducible rfl)) ?_
   simp only [Act.put, List.setIfInBounds_toArray, List.set_cons_zero, List.set_cons_succ]
   refine lint_pure 10 (Op.load 5 (Operand.tmp 9)) 5 (.int .u8 (x.toNat : Int)) rfl rfl rfl rfl rfl (fun w0 hb0 => by exact exec_load_cell _ _ _ _ rfl (by kernel_rfl) ((hb0.cell (p := ⟨b, off + 31, none⟩) hbl).trans hc31)) ?_
   simp only [Act.put, List.setIfInBounds_toArray, List.set_cons_zero, List.set_cons_succ]
   refine lint_pure 11 (Op.binOp BinOp.gtr 5 (Operand.tmp 10) (Operand.const (Value.int IntKind.u8 127)) 5) 4 (.bool true) rfl rfl rfl rfl rfl (fun w0 hb0 => by unfold mkOp; go_simp; all_goals (first | (with_reducible rfl) | simp [hx127])) ?_
   simp only [Act.put, List.setIfInBounds_toArray, List.set_cons_zero, List.set_cons_succ]
   refine lint_pure 12 (Op.pick (Operand.tmp 7) (Operand.const (Value.bool true)) (Operand.tmp 11)) 4 _ rfl rfl rfl rfl rfl (fun w0 hb0 => by unfold mkOp; go_simp; all_goals (with_reducible rfl)) ?_
   simp only [Act.put, List.setIfInBounds_toArray, List.set_cons_zero, List.set_cons_succ]
   refine lint_pure 13 (Op.move (Operand.tmp 12)) 4 _ rfl rfl rfl rfl rfl (fun w0 hb0 => by unfold mkOp; go_simp; all_goals (with_reducible rfl)) ?_
   simp only [Act.put, List.setIfInBounds_toArray, List.set_cons_zero, List.set_cons_succ]
   refine lint_none 14 rfl rfl rfl ?_
   simp only [Act.put, List.setIfInBounds_toArray, List.set_cons_zero, List.set_cons_succ]
   refine lint_none 18 rfl rfl rfl ?_
   simp only [Act.put, List.setIfInBounds_toArray, List.set_cons_zero, List.set_cons_succ]
   refine lint_none 19 rfl rfl rfl ?_
   simp only [Act.put, List.setIfInBounds_toArray, List.set_cons_zero, List.set_cons_succ]
   refine stp_none 15 rfl rfl rfl ?_
   simp only [Act.put, List.setIfInBounds_toArray, List.set_cons_zero, List.set_cons_succ]
   refine stp_none 16 rfl rfl rfl ?_
   simp only [Act.put, List.setIfInBounds_toArray, List.set_cons_zero, List.set_cons_succ]
   refine lint_none 17 rfl rfl rfl ?_
   simp only [Act.put, List.setIfInBounds_toArray, List.set_cons_zero, List.set_cons_succ]
   refine lint_none 20 rfl rfl rfl ?_
   simp only [Act.put, List.setIfInBounds_toArray, List.set_cons_zero, List.set_cons_succ]
   refine lint_pure 21 (Op.pick (Operand.tmp 13) (Operand.const (Value.bool true)) (Operand.tmp 20)) 4 _ rfl rfl rfl rfl rfl (fun w0 hb0 => by unfold mkOp; go_simp; all_goals (with_reducible rfl)) ?_
   simp only [Act.put, List.setIfInBounds_toArray, List.set_cons_zero, List.set_cons_succ]
   refine lint_end ?_
   go_wp2_with (first
     | (refine wpList_build_arr rfl 61 _ rfl (arrOf 16 (feF 0)) (by kernel_rfl) ?_)
     | (refine wpList_store_arr rfl 61 (.tmp 2) (.tmp 22) rfl 16 arrFe hRr rfl rfl (by omega) (fun _ _ => rfl) ?_; intro wz hrz hgz hsz))
   refine ret_cell_arr_tmp rfl arrFe hrz rfl rfl (by omega) rfl ⟨?_, hBel.grown hgz hBel.size (by intro k hk; cases hk; exact Nat.le_refl _)⟩
   rw [agg_put, HL.out]
   show Ending.returned (.tuple #[.agg (arrOf 16 (feF 0)), .int .i64 2]) = Ending.returned (.tuple #[.agg (arrOf 16 (feF 0)), .int .i64 2])
   rfl
 have hx127' : x.toNat ≤ 127 := by omega
 obtain ⟨o, ho⟩ : ∃ o, o = ofL l := ⟨_, rfl⟩
 obtain ⟨m, hm⟩ : ∃ m, m = litB o 32 := ⟨_, rfl⟩
 have hOf := fun v (W : World) hW => refOf_any v l W hW
 rw [← ho] at hOf
 have hsm : m = l → strictL l = some o := fun h => by
   unfold strictL
   rw [if_pos ⟨HN.out, by rw [← HX.out]; exact hx127', by rw [← ho, ← hm]; exact h⟩, ho]
 have hsn : ¬ m = l → strictL l = none := fun h => by
   unfold strictL
   rw [if_neg (fun h2 => h (by rw [hm, ho]; exact h2.2.2))]
 have HSM := Lib.hid hsm
 have HSN := Lib.hid hsn
 have HM := Lib.hid hm
 clear ho hsm hsn hm
 refine wp_region_lint (.rd 0 (.rd 1 (.rd 2 (.rd 3 (.rd 4 (.rd 5 (.rd 6 (.rd 7 (.rd 8 (.rd 9 (.rd 10 (.rd 14 (.rd 15 (.wr 11 (.wr 12 (.rd 13 (.rd 16 (.rd 17 .done)))))))))))))))))) (by kernel_rfl) (by kernel_rfl) (by decide) (by kernel_rfl) (fun d _ _ _ _ h => by cases d <;> exact h) ?_
 refine lint_pure 4 (Op.move (Operand.tmp 0)) 22 _ rfl rfl rfl rfl rfl (fun w0 hb0 => by unfold mkOp; go_simp; all_goals (with_reducible rfl)) ?_
 simp only [Act.put, List.setIfInBounds_toArray, List.set_cons_zero, List.set_cons_succ]
 refine lint_pure 5 (Op.call { callee := Callee.builtin Builtin.len, args := #[Operand.tmp 4], argTypes := #[22] }) 3 _ rfl rfl rfl rfl rfl (fun w0 hb0 => by unfold mkOp; go_simp; all_goals (with_reducible rfl)) ?_
 simp only [Act.put, List.setIfInBounds_toArray, List.set_cons_zero, List.set_cons_succ]
 refine lint_pure 6 (Op.binOp BinOp.neq 3 (Operand.tmp 5) (Operand.const (Value.int IntKind.i64 32)) 3) 4 (.bool false) rfl rfl rfl rfl rfl (fun w0 hb0 => by unfold mkOp; go_simp; all_goals (first | (with_reducible rfl) | simp [])) ?_
 simp only [Act.put, List.setIfInBounds_toArray, List.set_cons_zero, List.set_cons_succ]
 refine lint_pure 7 (Op.move (Operand.tmp 6)) 4 _ rfl rfl rfl rfl rfl (fun w0 hb0 => by unfold mkOp; go_simp; all_goals (with_reducible rfl)) ?_
 simp only [Act.put, List.setIfInBounds_toArray, List.set_cons_zero, List.set_cons_succ]
 refine lint_pure 8 (Op.move (Operand.tmp 0)) 22 _ rfl rfl rfl rfl rfl (fun w0 hb0 => by unfold mkOp; go_simp; all_goals (with_reducible rfl)) ?_
 simp only [Act.put, List.setIfInBounds_toArray, List.set_cons_zero, List.set_cons_succ]
 refine lint_pure 9 (Op.indexAddr 22 (Operand.tmp 8) (Operand.const (Value.int IntKind.i64 31))) 0 (.pointer (some ⟨b, off + 31, none⟩)) rfl rfl rfl rfl rfl (fun w0 hb0 => by unfold mkOp; go_simp; all_goals (with_reducible rfl)) ?_
 simp only [Act.put, List.setIfInBounds_toArray, List.set_cons_zero, List.set_cons_succ]
 refine lint_pure 10 (Op.load 5 (Operand.tmp 9)) 5 (.int .u8 (x.toNat : Int)) rfl rfl rfl rfl rfl (fun w0 hb0 => by exact exec_load_cell _ _ _ _ rfl (by kernel_rfl) ((hb0.cell (p := ⟨b, off + 31, none⟩) hbl).trans hc31)) ?_
 simp only [Act.put, List.setIfInBounds_toArray, List.set_cons_zero, List.set_cons_succ]
 refine lint_pure 11 (Op.binOp BinOp.gtr 5 (Operand.tmp 10) (Operand.const (Value.int IntKind.u8 127)) 5) 4 (.bool false) rfl rfl rfl rfl rfl (fun w0 hb0 => by unfold mkOp; go_simp; all_goals (first | (with_reducible rfl) | simp [hx127])) ?_
 simp only [Act.put, List.setIfInBounds_toArray, List.set_cons_zero, List.set_cons_succ]
 refine lint_pure 12 (Op.pick (Operand.tmp 7) (Operand.const (Value.bool true)) (Operand.tmp 11)) 4 _ rfl rfl rfl rfl rfl (fun w0 hb0 => by unfold mkOp; go_simp; all_goals (with_reducible rfl)) ?_
 simp only [Act.put, List.setIfInBounds_toArray, List.set_cons_zero, List.set_cons_succ]
 refine lint_pure 13 (Op.move (Operand.tmp 12)) 4 _ rfl rfl rfl rfl rfl (fun w0 hb0 => by unfold mkOp; go_simp; all_goals (with_reducible rfl)) ?_
 simp only [Act.put, List.setIfInBounds_toArray, List.set_cons_zero, List.set_cons_succ]
 refine lint_pure 14 (Op.move (Operand.tmp 0)) 22 _ rfl rfl rfl rfl rfl (fun w0 hb0 => by unfold mkOp; go_simp; all_goals (with_reducible rfl)) ?_
 simp only [Act.put, List.setIfInBounds_toArray, List.set_cons_zero, List.set_cons_succ]
 refine lint_pure 18 (Op.move (Operand.tmp 0)) 22 _ rfl rfl rfl rfl rfl (fun w0 hb0 => by unfold mkOp; go_simp; all_goals (with_reducible rfl)) ?_
 simp only [Act.put, List.setIfInBounds_toArray, List.set_cons_zero, List.set_cons_succ]
 refine lint_conv 19 (Operand.tmp 18) _ _ rfl rfl rfl rfl rfl HV ?_
 simp only [Act.put, List.setIfInBounds_toArray, List.set_cons_zero, List.set_cons_succ]
 refine stp_fn 15 125 #[Operand.tmp 14] #[22] _ (hOf _ _ HV) rfl rfl rfl rfl Tryz.func125 (by kernel_rfl) (by kernel_rfl) (by go_simp) ?_
 rintro e w5 ⟨rfl, hb5⟩
 replace HV := HV.below hb5 (Nat.le_refl _)
 replace hRr := World.rowIs.of_block hRr (hb5.block _ (World.rowIs.lt hRr))
 replace hBel := Below.trans hBel (hb5.mono hBel.size)
 refine ⟨_, rfl, hb5, ?_⟩
 simp only [Act.put, List.setIfInBounds_toArray, List.set_cons_zero, List.set_cons_succ]
 refine stp_fn 16 78 #[Operand.tmp 15] #[61] _ (refBytes_any o _) rfl rfl rfl rfl Tryz.func78 (by kernel_rfl) (by kernel_rfl) (by go_simp) ?_
 rintro e w6 ⟨v6, rfl, hO6, hb6⟩
 have HS := hO6.bs
 rw [← HM.out] at HS
 replace HV := HV.below hb6 (Nat.le_refl _)
 replace hRr := World.rowIs.of_block hRr (hb6.block _ (World.rowIs.lt hRr))
 replace hBel := Below.trans hBel (hb6.mono hBel.size)
 refine ⟨_, rfl, hb6, ?_⟩
 simp only [Act.put, List.setIfInBounds_toArray, List.set_cons_zero, List.set_cons_succ]
 refine lint_conv 17 (Operand.tmp 16) _ _ rfl rfl rfl rfl rfl HS ?_
 simp only [Act.put, List.setIfInBounds_toArray, List.set_cons_zero, List.set_cons_succ]
 refine lint_pure 20 (Op.binOp BinOp.neq 9 (Operand.tmp 17) (Operand.tmp 19) 9) 4 (.bool (!decide (m = l))) rfl rfl rfl rfl rfl (fun w0 hb0 => by exact exec_str_neq _ _ _ _ rfl rfl) ?_
 simp only [Act.put, List.setIfInBounds_toArray, List.set_cons_zero, List.set_cons_succ]
 refine lint_pure 21 (Op.pick (Operand.tmp 13) (Operand.const (Value.bool true)) (Operand.tmp 20)) 4 _ rfl rfl rfl rfl rfl (fun w0 hb0 => by unfold mkOp; go_simp; all_goals (with_reducible rfl)) ?_
 simp only [Act.put, List.setIfInBounds_toArray, List.set_cons_zero, List.set_cons_succ]
 refine lint_end ?_
 by_cases hcan : m = l
 focus
   rw [decide_eq_true hcan]
   have HL := Lib.hid (HSM.out hcan)
   clear hcan hc31
   go_wp2_with (first
     | (go_at_call 125; refine (hOf _ _ HV).mono ?_; rintro e w8 ⟨rfl, hb8⟩
        have hR8 := hRr.of_block (hb8.block _ hRr.lt)
        have hB8 := hBel.trans (hb8.mono hBel.size)
        clear hRr hBel hb8)
     | (refine wpList_store_arr rfl 61 (.tmp 2) (.tmp 24) rfl 16 arrFe hR8 rfl rfl (by omega) (fun _ _ => rfl) ?_; intro wz hrz hgz hsz))
   refine ret_cell_arr_tmp rfl arrFe hrz rfl rfl (by omega) rfl ⟨?_, hB8.grown hgz hB8.size (by intro k hk; cases hk; exact Nat.le_refl _)⟩
   rw [agg_put, HL.out]
   show Ending.returned (.tuple #[.agg (arrOf 16 (feF o)), .int .i64 0]) = Ending.returned (.tuple #[.agg (arrOf 16 (feF o)), .int .i64 0])
   rfl
 focus
   rw [decide_eq_false hcan]
   have HL := Lib.hid (HSN.out hcan)
   clear hcan hc31
   go_wp2_with (first
     | (refine wpList_build_arr rfl 61 _ rfl (arrOf 16 (feF 0)) (by kernel_rfl) ?_)
     | (refine wpList_store_arr rfl 61 (.tmp 2) (.tmp 22) rfl 16 arrFe hRr rfl rfl (by omega) (fun _ _ => rfl) ?_; intro wz hrz hgz hsz))
   refine ret_cell_arr_tmp rfl arrFe hrz rfl rfl (by omega) rfl ⟨?_, hBel.grown hgz hBel.size (by intro k hk; cases hk; exact Nat.le_refl _)⟩
   rw [agg_put, HL.out]
   show Ending.returned (.tuple #[.agg (arrOf 16 (feF 0)), .int .i64 2]) = Ending.returned (.tuple #[.agg (arrOf 16 (feF 0)), .int .i64 2])
   rfl
end Go.Proofs.YtonhpmaiagbheaaGreat
namespace Go.Proofs.YtonhpmaiagbheaaGreat
open Go.RowKit Go.Deep
theorem pow256_pos (k : Nat) : 0 < 256 ^ k := Nat.pow_pos (by decide)
theorem litB_getD (V n i : Nat) (h : i < n) : (litB V n).getD i 0 = UInt8.ofNat (V / 256 ^ i) := by
 unfold litB
 rw [List.getD_eq_getElem?_getD, List.getElem?_map, List.getElem?_range h]
 show UInt8.ofNat (V / 2 ^ (8 * i)) = _
 rw [Nat.pow_mul]
theorem numL_litB (V n : Nat) : ∀ k, k ≤ n → numL (litB V n) k = V % 256 ^ k
 | 0, _ => by rw [Nat.pow_zero, Nat.mod_one]; rfl
 | k + 1, h => by
   rw [numL, numL_litB V n k (by omega), litB_getD V n k (by omega), Nat.pow_succ, Nat.mod_mul]
   simp only [UInt8.toNat_ofNat']
   rw [Nat.mul_comm]
theorem numL_add (l : List UInt8) (i : Nat) : ∀ d, ∃ r, numL l (i + d) = numL l i + 256 ^ i * r
 | 0 => ⟨0, by simp⟩
 | d + 1 => by
   obtain ⟨r, hr⟩ := numL_add l i d
   refine ⟨r + (l.getD (i + d) 0).toNat * 256 ^ d, ?_⟩
   show numL l (i + d) + (l.getD (i + d) 0).toNat * 256 ^ (i + d) = _
   rw [hr, Nat.mul_add, Nat.pow_add]
   have : (l.getD (i + d) 0).toNat * (256 ^ i * 256 ^ d) = 256 ^ i * ((l.getD (i + d) 0).toNat * 256 ^ d) := by ac_rfl
   omega
theorem numL_dig (l : List UInt8) (n i : Nat) (h : i < n) : numL l n / 256 ^ i % 256 = (l.getD i 0).toNat := by
 obtain ⟨r, hr⟩ := numL_add l (i + 1) (n - (i + 1))
 rw [show i + 1 + (n - (i + 1)) = n by omega] at hr
 have h1 := numL_lt l i
 have h2 := UInt8.toNat_lt (l.getD i 0)
 rw [hr, numL, Nat.pow_succ]
 have e : numL l i + (l.getD i 0).toNat * 256 ^ i + 256 ^ i * 256 * r = numL l i + 256 ^ i * ((l.getD i 0).toNat + 256 * r) := by
   rw [Nat.mul_add, Nat.mul_assoc, Nat.mul_comm (l.getD i 0).toNat]; omega
 rw [e, Nat.add_mul_div_left _ _ (pow256_pos i), Nat.div_eq_of_lt h1]
 omega
theorem litB_numL (l : List UInt8) (n : Nat) (h : l.length = n) : litB (numL l n) n = l := by
 refine List.ext_getElem (by rw [litB_length, h]) fun i h1 h2 => ?_
 rw [litB_length] at h1
 have e1 := litB_getD (numL l n) n i h1
 rw [getD_at _ i (by rw [litB_length]; exact h1)] at e1
 rw [e1, ← getD_at l i h2]
 apply UInt8.toNat_inj.1
 simp only [UInt8.toNat_ofNat']
 exact numL_dig l n i h1
theorem p25_lt_top : p25 < top := by decide +kernel
theorem top_le : top ≤ 256 ^ 32 := by decide +kernel
theorem ofL_lt (l : List UInt8) : ofL l < p25 := Nat.mod_lt _ p25_pos
theorem ofL_low (l : List UInt8) (h : numL l 32 < p25) : ofL l = numL l 32 := by
 unfold ofL
 rw [Nat.mod_eq_of_lt (Nat.lt_trans h p25_lt_top), Nat.mod_eq_of_lt h]
theorem strictL_eq (l : List UInt8) : strictL l = if l.length = 32 ∧ numL l 32 < p25 then some (numL l 32) else none := by
 unfold strictL
 by_cases h : l.length = 32 ∧ numL l 32 < p25
 · obtain ⟨h1, h2⟩ := h
   have h3 : (l.getD 31 0).toNat ≤ 127 := by
     have e := numL_dig l 32 31 (by decide)
     have e2 : numL l 32 / 256 ^ 31 < 128 := by
       rw [Nat.div_lt_iff_lt_mul (pow256_pos 31)]
       exact Nat.lt_of_lt_of_le h2 (by decide +kernel)
     omega
   rw [if_pos ⟨h1, h3, by rw [ofL_low l h2]; exact litB_numL l 32 h1⟩, if_pos ⟨h1, h2⟩, ofL_low l h2]
 · rw [if_neg h, if_neg]
   rintro ⟨h1, _, h3⟩
   apply h
   refine ⟨h1, ?_⟩
   have e := numL_litB (ofL l) 32 32 (Nat.le_refl _)
   rw [h3, Nat.mod_eq_of_lt (Nat.lt_of_lt_of_le (Nat.lt_trans (ofL_lt l) p25_lt_top) top_le)] at e
   rw [e]
   exact ofL_lt l
theorem numL_own (V : Nat) (h : V < p25) : numL (litB V 32) 32 = V := by
 rw [numL_litB V 32 32 (Nat.le_refl _), Nat.mod_eq_of_lt (Nat.lt_of_lt_of_le (Nat.lt_trans h p25_lt_top) top_le)]
def addP (a b : Nat) : Nat := (a + b) % p25
def mulP (a b : Nat) : Nat := a * b % p25
def invP (a : Nat) : Nat := a ^ (p25 - 2) % p25
def oppP (a : Nat) : Nat := subP p25 0 a
theorem eq_of_Eqm {a b : Nat} (h : Eqm p25 a b) (ha : a < p25) (hb : b < p25) : a = b := by
 unfold Eqm at h
 rwa [Nat.mod_eq_of_lt ha, Nat.mod_eq_of_lt hb] at h
theorem addP_lt (a b : Nat) : addP a b < p25 := mod_p_lt _
theorem mulP_lt (a b : Nat) : mulP a b < p25 := mod_p_lt _
theorem invP_lt (a : Nat) : invP a < p25 := mod_p_lt _
theorem subP_lt (a b : Nat) : subP p25 a b < p25 := mod_p_lt _
theorem oppP_lt (a : Nat) : oppP a < p25 := mod_p_lt _
theorem mulP_E (a b : Nat) : Eqm p25 (mulP a b) (a * b) := Eqm.mod _ _
theorem invP_E (a : Nat) : Eqm p25 (invP a) (a ^ (p25 - 2)) := Eqm.mod _ _
theorem subP_E (a b : Nat) : Eqm p25 (subP p25 a b) (a + negP p25 b) := Eqm.mod _ _
theorem oppP_eq (a : Nat) : oppP a = negP p25 a := by unfold oppP subP; rw [Nat.zero_add, Nat.mod_eq_of_lt (negP_lt p25_pos a)]
theorem oppP_E (a : Nat) : Eqm p25 (a + oppP a) 0 := by rw [oppP_eq]; exact negP_add p25_pos a
theorem not_zero {a : Nat} (ha : a < p25) (h0 : a ≠ 0) : ¬ Eqm p25 a 0 := fun h => h0 (eq_of_Eqm h ha p25_pos)
theorem mul_invP (a : Nat) (ha : a < p25) (h0 : a ≠ 0) : mulP a (invP a) = 1 := by
 refine eq_of_Eqm ?_ (mulP_lt _ _) (by decide +kernel)
 refine (mulP_E _ _).trans (((Eqm.rfl' a).mul (invP_E a)).trans ?_)
 rw [Nat.mul_comm]
 exact inv_mul prime_p25 (not_zero ha h0)
theorem p25_two : 2 < p25 := by decide +kernel
theorem root_square (x : Nat) (hx : x < p25) : ∃ r, rootL p25 t25 (mulP x x) = some r ∧ mulP r r = mulP x x ∧ r % 2 = 0 ∧ r < p25 ∧ (r = x ∨ r = oppP x) := by
 obtain ⟨r, hr⟩ := rootL_square prime_p25 t25_eq two_none (s := mulP x x) (x := x) (mulP_lt _ _) rfl
 obtain ⟨h1, h2, h3⟩ := rootL_some prime_p25 t25_eq (mulP_lt _ _) hr
 refine ⟨r, hr, h1, h2, h3, ?_⟩
 have h4 : Eqm p25 (r * r) (x * x) := by
   have := (mulP_E x x)
   unfold Eqm at *
   rw [h1, ← this, Nat.mod_eq_of_lt (mulP_lt _ _)]
 rcases sq_eq prime_p25 h4 with h5 | h5
 · exact .inl (eq_of_Eqm h5 h3 hx)
 · right
   rw [oppP_eq]
   exact eq_of_Eqm h5 h3 (negP_lt p25_pos _)
end Go.Proofs.YtonhpmaiagbheaaGreat
namespace Go.Proofs.YtonhpmaiagbheaaGreat
def Z (a : Int) : Prop := ((p25 : Nat) : Int) ∣ a
theorem Z.zero : Z 0 := ⟨0, by simp⟩
theorem Z.add {a b : Int} (h : Z a) (k : Z b) : Z (a + b) := Int.dvd_add h k
theorem Z.sub {a b : Int} (h : Z a) (k : Z b) : Z (a - b) := Int.dvd_sub h k
theorem Z.mul {a : Int} (k : Int) (h : Z a) : Z (k * a) := by
 obtain ⟨r, rfl⟩ := h
 exact ⟨k * r, by rw [Int.mul_left_comm]⟩
theorem Z.lin1 {a t : Int} (k : Int) (ha : Z a) (h : t = k * a) : Z t := h ▸ ha.mul k
theorem Z.lin2 {a b t : Int} (k l : Int) (ha : Z a) (hb : Z b) (h : t = k * a + l * b) : Z t := h ▸ (ha.mul k).add (hb.mul l)
theorem Z.lin3 {a b c t : Int} (k l m : Int) (ha : Z a) (hb : Z b) (hc : Z c) (h : t = k * a + l * b + m * c) : Z t := h ▸ ((ha.mul k).add (hb.mul l)).add (hc.mul m)
theorem Z.lin4 {a b c d t : Int} (k l m n : Int) (ha : Z a) (hb : Z b) (hc : Z c) (hd : Z d) (h : t = k * a + l * b + m * c + n * d) : Z t := h ▸ (((ha.mul k).add (hb.mul l)).add (hc.mul m)).add (hd.mul n)
theorem Z.prime {a b : Int} (h : Z (a * b)) : Z a ∨ Z b := by
 have h2 : p25 ∣ a.natAbs * b.natAbs := by
   rw [← Int.natAbs_mul]
   exact Int.ofNat_dvd_left.1 h
 rcases IsPrime.dvd_mul prime_p25 h2 with h3 | h3
 · exact .inl (Int.ofNat_dvd_left.2 h3)
 · exact .inr (Int.ofNat_dvd_left.2 h3)
theorem Z.cancel {a b : Int} (h : Z (a * b)) (ha : ¬ Z a) : Z b := h.prime.resolve_left ha
theorem Z.not_mul {a b : Int} (ha : ¬ Z a) (hb : ¬ Z b) : ¬ Z (a * b) := fun h => hb (h.cancel ha)
theorem Z.nat {a : Nat} (ha : a < p25) : Z (a : Int) ↔ a = 0 := by
 constructor
 · intro h
   exact Nat.eq_zero_of_dvd_of_lt (Int.natCast_dvd_natCast.1 h) ha
 · rintro rfl
   exact Z.zero
theorem Z.one : ¬ Z 1 := fun h => by
 have := (Z.nat (a := 1) (Nat.lt_trans (by decide) p25_two)).1 h
 cases this
theorem Z.eq {a b : Nat} (ha : a < p25) (hb : b < p25) (h : Z ((a : Int) - (b : Int))) : a = b := by
 obtain ⟨k, hk⟩ := h
 have h2 : (a : Int) % ((p25 : Nat) : Int) = (b : Int) % ((p25 : Nat) : Int) := by
   rw [show (a : Int) = (b : Int) + ((p25 : Nat) : Int) * k by omega, Int.add_mul_emod_self_left]
 rw [← Int.natCast_emod, ← Int.natCast_emod, Nat.mod_eq_of_lt ha, Nat.mod_eq_of_lt hb] at h2
 exact Int.ofNat.inj h2
def numZ (a : Int) : Nat := (a % ((p25 : Nat) : Int)).toNat
theorem p25_posZ : (0 : Int) < ((p25 : Nat) : Int) := Int.natCast_pos.2 p25_pos
theorem numZ_cast (a : Int) : ((numZ a : Nat) : Int) = a % ((p25 : Nat) : Int) := Int.toNat_of_nonneg (Int.emod_nonneg _ (Int.ne_of_gt p25_posZ))
theorem numZ_lt (a : Int) : numZ a < p25 := by
 have h := Int.emod_lt_of_pos a p25_posZ
 rw [← numZ_cast] at h
 exact Int.ofNat_lt.1 h
theorem numZ_Z (a : Int) : Z (((numZ a : Nat) : Int) - a) := by
 rw [numZ_cast]
 refine ⟨-(a / ((p25 : Nat) : Int)), ?_⟩
 have := Int.mul_ediv_add_emod a ((p25 : Nat) : Int)
 rw [Int.mul_neg]
 omega
theorem Z_mod (a : Nat) : Z (((a % p25 : Nat) : Int) - (a : Int)) := by
 refine ⟨-((a / p25 : Nat) : Int), ?_⟩
 have h := Nat.div_add_mod a p25
 rw [Int.mul_neg, ← Int.natCast_mul]
 omega
theorem Z_addP (a b : Nat) : Z (((addP a b : Nat) : Int) - ((a : Int) + (b : Int))) := by
 have h := Z_mod (a + b)
 rwa [Int.natCast_add] at h
theorem Z_mulP (a b : Nat) : Z (((mulP a b : Nat) : Int) - (a : Int) * (b : Int)) := by
 have h := Z_mod (a * b)
 rwa [Int.natCast_mul] at h
theorem Z_of_Eqm {a b : Nat} (h : Eqm p25 a b) : Z ((a : Int) - (b : Int)) := by
 have h1 := Z_mod a
 have h2 := Z_mod b
 rw [show a % p25 = b % p25 from h] at h1
 exact (h2.sub h1).lin1 1 (by omega)
theorem Z_subP (a b : Nat) : Z (((subP p25 a b : Nat) : Int) - ((a : Int) - (b : Int))) := by
 have h1 := Z_of_Eqm (subP_E a b)
 have h2 := Z_of_Eqm (negP_add p25_pos b)
 exact (h1.add h2).lin1 1 (by omega)
theorem Z_oppP (a : Nat) : Z (((oppP a : Nat) : Int) + (a : Int)) := by
 have h := Z_of_Eqm (oppP_E a)
 exact h.lin1 1 (by omega)
theorem Z_invP {a : Nat} (ha : a < p25) (h : ¬ Z (a : Int)) : Z ((a : Int) * ((invP a : Nat) : Int) - 1) := by
 have h1 := mul_invP a ha (fun h0 => h ((Z.nat ha).2 h0))
 have h2 := Z_mulP a (invP a)
 rw [h1] at h2
 exact h2.lin1 (-1) (by omega)
theorem Z.inv {a : Int} (h : ¬ Z a) : ∃ b : Int, Z (a * b - 1) := by
 have h1 := numZ_Z a
 have h2 : ¬ Z ((numZ a : Nat) : Int) := fun h3 => h ((h3.sub h1).lin1 1 (by omega))
 have h3 := Z_invP (numZ_lt a) h2
 refine ⟨(invP (numZ a) : Nat), ?_⟩
 generalize ((invP (numZ a) : Nat) : Int) = b at h3
 generalize ((numZ a : Nat) : Int) = n at h1 h3
 exact h3.lin2 1 (-b) h1 (by grind)
def quot (a b : Int) : Nat := mulP (numZ a) (invP (numZ b))
theorem quot_lt (a b : Int) : quot a b < p25 := mulP_lt _ _
theorem quot_Z (a : Int) {b : Int} (h : ¬ Z b) : Z (((quot a b : Nat) : Int) * b - a) := by
 have h1 := numZ_Z a
 have h2 := numZ_Z b
 have h4 : ¬ Z ((numZ b : Nat) : Int) := fun h3 => h ((h3.sub h2).lin1 1 (by omega))
 have h3 := Z_invP (numZ_lt b) h4
 have h5 := Z_mulP (numZ a) (invP (numZ b))
 unfold quot
 generalize ((mulP (numZ a) (invP (numZ b)) : Nat) : Int) = q at *
 generalize ((invP (numZ b) : Nat) : Int) = i at *
 generalize ((numZ a : Nat) : Int) = m at *
 generalize ((numZ b : Nat) : Int) = n at *
 exact Z.lin4 b (-(m * i)) m 1 h5 h2 h3 h1 (by grind)
theorem quot_eq {x : Nat} {a b : Int} (hx : x < p25) (h : ¬ Z b) (e : Z ((x : Int) * b - a)) : x = quot a b := by
 refine Z.eq hx (quot_lt a b) ?_
 have h1 := quot_Z a h
 generalize ((quot a b : Nat) : Int) = q at *
 exact Z.cancel (a := b) (e.lin2 1 (-1) h1 (by grind)) h
def cN : Nat := 29203323570479832313932222820853031755424015489030106335172286495629888845891
def cE : Int := (cN : Int)
def iN : Nat := 19681161376707505956807079304988542015446066515923890162744021073123829784752
theorem c_lt : cN < p25 := by decide +kernel
theorem c_ne : ¬ Z cE := fun h => by
 have := (Z.nat c_lt).1 h
 revert this
 decide +kernel
theorem i_sq : Z ((iN : Int) * (iN : Int) + 1) := by
 have h : Eqm p25 (iN * iN + 1) 0 := by unfold Eqm; decide +kernel
 have h2 := Z_of_Eqm h
 rw [Int.natCast_add, Int.natCast_mul] at h2
 exact h2.lin1 1 (by omega)
theorem half_eq : p25 - 1 = 2 * ((p25 - 1) / 2) := by decide +kernel
theorem c_pow : cN ^ ((p25 - 1) / 2) % p25 ≠ 1 := by
 rw [← pw_eq p25 255 cN _ (by decide +kernel)]
 decide +kernel
theorem c_none {a b : Int} (h : Z (cE * (a * a) - b * b)) : Z a := by
 refine Classical.byContradiction fun ha => ?_
 have h1 := quot_Z b ha
 have h2 : Z (((quot b a : Nat) : Int) * ((quot b a : Nat) : Int) - cE) := by
   generalize ((quot b a : Nat) : Int) = q at *
   refine Z.cancel (a := a * a) ?_ (Z.not_mul ha ha)
   exact Z.lin2 (q * a + b) (-1) h1 h (by grind)
 have hq := quot_lt b a
 generalize quot b a = q at h1 h2 hq
 have h3 : Eqm p25 (q * q) cN := by
   have e1 : ((q * q % p25 : Nat) : Int) = ((q * q : Nat) : Int) % ((p25 : Nat) : Int) := Int.natCast_emod _ _
   have h5 := Z_mod (q * q)
   rw [Int.natCast_mul] at h5
   unfold Eqm
   rw [Nat.mod_eq_of_lt c_lt]
   exact Z.eq (Nat.mod_lt _ p25_pos) c_lt ((h5.add h2).lin1 1 (by unfold cE; omega))
 have hq0 : ¬ p25 ∣ q := fun hd => by
   have h6 : Z (q : Int) := Int.natCast_dvd_natCast.2 hd
   refine c_ne ((h2.sub (h6.mul q)).lin1 (-1) (by omega))
 have h4 := fermat1 prime_p25 q hq0
 have h7 := h3.pow ((p25 - 1) / 2)
 unfold Eqm at h7
 rw [← Nat.pow_two, ← Nat.pow_mul, ← half_eq, h4] at h7
 exact c_pow h7.symm
def EC (x y : Int) : Prop := Z (x * x * y * y - cE * (y * y - x * x - 1))
theorem c_sqn (y : Int) : ¬ Z (cE + y * y) := fun h => Z.one (c_none (a := 1) (b := (iN : Int) * y) (by
 have hi := i_sq
 generalize ((iN : Nat) : Int) = i at *
 exact Z.lin2 1 (-(y * y)) h hi (by grind)))
theorem no_zero {x1 y1 x2 y2 e : Int} (he : e * e = 1) (h1 : EC x1 y1) (h2 : EC x2 y2) : ¬ Z (cE - e * (x1 * x2 * y1 * y2)) := fun h => by
 have hi := i_sq
 have hc := c_ne
 unfold EC at h1 h2
 have hn := @c_none
 generalize ((iN : Nat) : Int) = i at *
 generalize cE = c at *
 have key : ∀ j : Int, Z (j * j + 1) → Z (x1 * y1 * (j * x2 + y2)) := fun j hj => by
   have h3 : Z (c * ((j * x1 + e * y1) * (j * x1 + e * y1)) - (x1 * y1 * (j * x2 + y2)) * (x1 * y1 * (j * x2 + y2))) := by
     refine Z.cancel (a := c) ?_ hc
     exact Z.lin4 (-c) (x1*x1*y1*y1) (c + e*(x1*x2*y1*y2) + 2*j*e*c*x1*y1) (c*c*x1*x1 - c*(x1*x1*y1*y1*x2*x2)) h1 h2 h hj (by grind)
   have h4 := hn h3
   have h5 : Z ((x1 * y1 * (j * x2 + y2)) * (x1 * y1 * (j * x2 + y2))) := Z.lin2 (-1) (c * (j * x1 + e * y1)) h3 h4 (by grind)
   rcases h5.prime with h6 | h6 <;> exact h6
 have k1 := key i hi
 have k2 := key (-i) (hi.lin1 1 (by grind))
 have k3 : Z (2 * (x1 * y1 * y2)) := Z.lin2 1 1 k1 k2 (by grind)
 have k4 : Z (x1 * y1 * y2) := k3.cancel fun h => by
   have := (Z.nat (a := 2) p25_two).1 h
   cases this
 exact hc (Z.lin2 1 (e * x2) h k4 (by grind))
theorem plus_ne {x1 y1 x2 y2 : Int} (h1 : EC x1 y1) (h2 : EC x2 y2) : ¬ Z (cE + x1 * x2 * y1 * y2) := fun h => no_zero (e := -1) (by decide) h1 h2 (h.lin1 1 (by grind))
theorem minus_ne {x1 y1 x2 y2 : Int} (h1 : EC x1 y1) (h2 : EC x2 y2) : ¬ Z (cE - x1 * x2 * y1 * y2) := fun h => no_zero (e := 1) (by decide) h1 h2 (h.lin1 1 (by grind))
theorem poly_x (x1 y1 x2 y2 x3 y3 c : Int) (h1 : Z (x1*x1*y1*y1 - c*(y1*y1 - x1*x1 - 1))) (h2 : Z (x2*x2*y2*y2 - c*(y2*y2 - x2*x2 - 1))) (h3 : Z (x3*x3*y3*y3 - c*(y3*y3 - x3*x3 - 1))) :
   Z (((x1*y2+y1*x2)*y3*(c - x1*x2*y1*y2) + (y1*y2+x1*x2)*x3*(c + x1*x2*y1*y2)) * ((c + x2*x3*y2*y3)*(c - x2*x3*y2*y3) + c*(x2*y3+y2*x3)*(y2*y3+x2*x3)*x1*y1) - (x1*(y2*y3+x2*x3)*(c + x2*x3*y2*y3) + y1*(x2*y3+y2*x3)*(c - x2*x3*y2*y3)) * ((c + x1*x2*y1*y2)*(c - x1*x2*y1*y2) + c*(x1*y2+y1*x2)*(y1*y2+x1*x2)*x3*y3)) :=
 Z.lin3 (y1*x2*y2*y2*y2*y2*x3*x3*y3*c + y1*x2*x2*y2*y2*y2*x3*c + y1*x2*x2*y2*y2*y2*x3*x3*x3*c + y1*x2*x2*x2*y2*y2*y3*c - y1*x2*x2*x2*y2*y2*y3*y3*y3*c - y1*x2*x2*x2*y2*y2*y2*y2*x3*x3*y3 - y1*x2*x2*x2*x2*y2*x3*y3*y3*c - y1*x2*x2*x2*x2*y2*y2*y2*x3*y3*y3 - x1*x2*y2*y2*y2*y2*x3*y3*y3*c + x1*x2*x2*y2*y2*y2*y3*c - x1*x2*x2*y2*y2*y2*y3*y3*y3*c + x1*x2*x2*x2*y2*y2*x3*c + x1*x2*x2*x2*y2*y2*x3*x3*x3*c + x1*x2*x2*x2*y2*y2*y2*y2*x3*y3*y3 + x1*x2*x2*x2*x2*y2*x3*x3*y3*c + x1*x2*x2*x2*x2*y2*y2*y2*x3*x3*y3)
   (-y1*y2*x3*c*c + y1*y2*x3*y3*y3*c*c - y1*y2*x3*x3*x3*c*c - y1*y2*x3*x3*x3*y3*y3*c - y1*x2*y3*c*c + y1*x2*y3*y3*y3*c*c - y1*x2*x3*x3*y3*c*c - y1*x2*x3*x3*y3*y3*y3*c + y1*x2*y2*y2*x3*x3*y3*c + y1*x2*x2*y2*x3*y3*y3*c + y1*y1*y1*y2*x3*c*c - y1*y1*y1*y2*x3*y3*y3*c*c + y1*y1*y1*y2*x3*x3*x3*c*c + y1*y1*y1*y2*x3*x3*x3*y3*y3*c + y1*y1*y1*x2*y3*c*c - y1*y1*y1*x2*y3*y3*y3*c*c + y1*y1*y1*x2*x3*x3*y3*c*c + y1*y1*y1*x2*x3*x3*y3*y3*y3*c - y1*y1*y1*x2*y2*y2*x3*x3*y3*c - y1*y1*y1*x2*x2*y2*x3*y3*y3*c - x1*y2*y3*c*c + x1*y2*y3*y3*y3*c*c - x1*y2*x3*x3*y3*c*c - x1*y2*x3*x3*y3*y3*y3*c - x1*x2*x3*c*c + x1*x2*x3*y3*y3*c*c - x1*x2*x3*x3*x3*c*c - x1*x2*x3*x3*x3*y3*y3*c - x1*x2*y2*y2*x3*y3*y3*c - x1*x2*x2*y2*x3*x3*y3*c + x1*y1*y1*y2*y3*c*c - x1*y1*y1*y2*y3*y3*y3*c*c + x1*y1*y1*y2*x3*x3*y3*c*c + x1*y1*y1*y2*x3*x3*y3*y3*y3*c + x1*y1*y1*x2*x3*c*c - x1*y1*y1*x2*x3*y3*y3*c*c + x1*y1*y1*x2*x3*x3*x3*c*c + x1*y1*y1*x2*x3*x3*x3*y3*y3*c + x1*y1*y1*x2*y2*y2*x3*y3*y3*c - x1*y1*y1*x2*y2*y2*x3*x3*x3*y3*y3 + x1*y1*y1*x2*x2*y2*x3*x3*y3*c + x1*y1*y1*x2*x2*y2*x3*x3*y3*y3*y3 - x1*x1*y1*y2*x3*c*c + x1*x1*y1*y2*x3*y3*y3*c*c - x1*x1*y1*y2*x3*x3*x3*c*c - x1*x1*y1*y2*x3*x3*x3*y3*y3*c - x1*x1*y1*x2*y3*c*c + x1*x1*y1*x2*y3*y3*y3*c*c - x1*x1*y1*x2*x3*x3*y3*c*c - x1*x1*y1*x2*x3*x3*y3*y3*y3*c + x1*x1*y1*x2*y2*y2*x3*x3*y3*c + x1*x1*y1*x2*y2*y2*x3*x3*y3*y3*y3 + x1*x1*y1*x2*x2*y2*x3*y3*y3*c - x1*x1*y1*x2*x2*y2*x3*x3*x3*y3*y3 - x1*x1*x1*y2*y3*c*c + x1*x1*x1*y2*y3*y3*y3*c*c - x1*x1*x1*y2*x3*x3*y3*c*c - x1*x1*x1*y2*x3*x3*y3*y3*y3*c - x1*x1*x1*x2*x3*c*c + x1*x1*x1*x2*x3*y3*y3*c*c - x1*x1*x1*x2*x3*x3*x3*c*c - x1*x1*x1*x2*x3*x3*x3*y3*y3*c - x1*x1*x1*x2*y2*y2*x3*y3*y3*c - x1*x1*x1*x2*x2*y2*x3*x3*y3*c)
   (y1*y2*x3*c*c - y1*y2*y2*y2*x3*c*c + y1*x2*y3*c*c - y1*x2*y2*y2*y3*c*c + y1*x2*x2*y2*x3*c*c + y1*x2*x2*x2*y3*c*c - y1*y1*y1*y2*x3*c*c + y1*y1*y1*y2*y2*y2*x3*c*c - y1*y1*y1*x2*y3*c*c + y1*y1*y1*x2*y2*y2*y3*c*c - y1*y1*y1*x2*x2*y2*x3*c*c - y1*y1*y1*x2*x2*x2*y3*c*c + x1*y2*y3*c*c - x1*y2*y2*y2*y3*c*c + x1*x2*x3*c*c - x1*x2*y2*y2*x3*c*c + x1*x2*x2*y2*y3*c*c + x1*x2*x2*x2*x3*c*c - x1*y1*y1*y2*y3*c*c + x1*y1*y1*y2*y2*y2*y3*c*c - x1*y1*y1*x2*x3*c*c + x1*y1*y1*x2*y2*y2*x3*c + x1*y1*y1*x2*y2*y2*x3*c*c - x1*y1*y1*x2*x2*y2*y3*c - x1*y1*y1*x2*x2*y2*y3*c*c - x1*y1*y1*x2*x2*x2*x3*c*c + x1*x1*y1*y2*x3*c*c - x1*x1*y1*y2*y2*y2*x3*c*c + x1*x1*y1*x2*y3*c*c - x1*x1*y1*x2*y2*y2*y3*c - x1*x1*y1*x2*y2*y2*y3*c*c + x1*x1*y1*x2*x2*y2*x3*c + x1*x1*y1*x2*x2*y2*x3*c*c + x1*x1*y1*x2*x2*x2*y3*c*c + x1*x1*x1*y2*y3*c*c - x1*x1*x1*y2*y2*y2*y3*c*c + x1*x1*x1*x2*x3*c*c - x1*x1*x1*x2*y2*y2*x3*c*c + x1*x1*x1*x2*x2*y2*y3*c*c + x1*x1*x1*x2*x2*x2*x3*c*c) h1 h2 h3 (by grind)
theorem poly_y (x1 y1 x2 y2 x3 y3 c : Int) (h1 : Z (x1*x1*y1*y1 - c*(y1*y1 - x1*x1 - 1))) (h2 : Z (x2*x2*y2*y2 - c*(y2*y2 - x2*x2 - 1))) (h3 : Z (x3*x3*y3*y3 - c*(y3*y3 - x3*x3 - 1))) :
   Z (((y1*y2+x1*x2)*y3*(c + x1*x2*y1*y2) + (x1*y2+y1*x2)*x3*(c - x1*x2*y1*y2)) * ((c + x2*x3*y2*y3)*(c - x2*x3*y2*y3) - c*(x2*y3+y2*x3)*(y2*y3+x2*x3)*x1*y1) - (y1*(y2*y3+x2*x3)*(c + x2*x3*y2*y3) + x1*(x2*y3+y2*x3)*(c - x2*x3*y2*y3)) * ((c + x1*x2*y1*y2)*(c - x1*x2*y1*y2) - c*(x1*y2+y1*x2)*(y1*y2+x1*x2)*x3*y3)) :=
 Z.lin3 (-y1*x2*y2*y2*y2*y2*x3*y3*y3*c + y1*x2*x2*y2*y2*y2*y3*c - y1*x2*x2*y2*y2*y2*y3*y3*y3*c + y1*x2*x2*x2*y2*y2*x3*c + y1*x2*x2*x2*y2*y2*x3*x3*x3*c + y1*x2*x2*x2*y2*y2*y2*y2*x3*y3*y3 + y1*x2*x2*x2*x2*y2*x3*x3*y3*c + y1*x2*x2*x2*x2*y2*y2*y2*x3*x3*y3 + x1*x2*y2*y2*y2*y2*x3*x3*y3*c + x1*x2*x2*y2*y2*y2*x3*c + x1*x2*x2*y2*y2*y2*x3*x3*x3*c + x1*x2*x2*x2*y2*y2*y3*c - x1*x2*x2*x2*y2*y2*y3*y3*y3*c - x1*x2*x2*x2*y2*y2*y2*y2*x3*x3*y3 - x1*x2*x2*x2*x2*y2*x3*y3*y3*c - x1*x2*x2*x2*x2*y2*y2*y2*x3*y3*y3)
   (-y1*y2*y3*c*c + y1*y2*y3*y3*y3*c*c - y1*y2*x3*x3*y3*c*c - y1*y2*x3*x3*y3*y3*y3*c - y1*x2*x3*c*c + y1*x2*x3*y3*y3*c*c - y1*x2*x3*x3*x3*c*c - y1*x2*x3*x3*x3*y3*y3*c - y1*x2*y2*y2*x3*y3*y3*c - y1*x2*x2*y2*x3*x3*y3*c + y1*y1*y1*y2*y3*c*c - y1*y1*y1*y2*y3*y3*y3*c*c + y1*y1*y1*y2*x3*x3*y3*c*c + y1*y1*y1*y2*x3*x3*y3*y3*y3*c + y1*y1*y1*x2*x3*c*c - y1*y1*y1*x2*x3*y3*y3*c*c + y1*y1*y1*x2*x3*x3*x3*c*c + y1*y1*y1*x2*x3*x3*x3*y3*y3*c + y1*y1*y1*x2*y2*y2*x3*y3*y3*c + y1*y1*y1*x2*x2*y2*x3*x3*y3*c - x1*y2*x3*c*c + x1*y2*x3*y3*y3*c*c - x1*y2*x3*x3*x3*c*c - x1*y2*x3*x3*x3*y3*y3*c - x1*x2*y3*c*c + x1*x2*y3*y3*y3*c*c - x1*x2*x3*x3*y3*c*c - x1*x2*x3*x3*y3*y3*y3*c + x1*x2*y2*y2*x3*x3*y3*c + x1*x2*x2*y2*x3*y3*y3*c + x1*y1*y1*y2*x3*c*c - x1*y1*y1*y2*x3*y3*y3*c*c + x1*y1*y1*y2*x3*x3*x3*c*c + x1*y1*y1*y2*x3*x3*x3*y3*y3*c + x1*y1*y1*x2*y3*c*c - x1*y1*y1*x2*y3*y3*y3*c*c + x1*y1*y1*x2*x3*x3*y3*c*c + x1*y1*y1*x2*x3*x3*y3*y3*y3*c - x1*y1*y1*x2*y2*y2*x3*x3*y3*c - x1*y1*y1*x2*y2*y2*x3*x3*y3*y3*y3 - x1*y1*y1*x2*x2*y2*x3*y3*y3*c + x1*y1*y1*x2*x2*y2*x3*x3*x3*y3*y3 - x1*x1*y1*y2*y3*c*c + x1*x1*y1*y2*y3*y3*y3*c*c - x1*x1*y1*y2*x3*x3*y3*c*c - x1*x1*y1*y2*x3*x3*y3*y3*y3*c - x1*x1*y1*x2*x3*c*c + x1*x1*y1*x2*x3*y3*y3*c*c - x1*x1*y1*x2*x3*x3*x3*c*c - x1*x1*y1*x2*x3*x3*x3*y3*y3*c - x1*x1*y1*x2*y2*y2*x3*y3*y3*c + x1*x1*y1*x2*y2*y2*x3*x3*x3*y3*y3 - x1*x1*y1*x2*x2*y2*x3*x3*y3*c - x1*x1*y1*x2*x2*y2*x3*x3*y3*y3*y3 - x1*x1*x1*y2*x3*c*c + x1*x1*x1*y2*x3*y3*y3*c*c - x1*x1*x1*y2*x3*x3*x3*c*c - x1*x1*x1*y2*x3*x3*x3*y3*y3*c - x1*x1*x1*x2*y3*c*c + x1*x1*x1*x2*y3*y3*y3*c*c - x1*x1*x1*x2*x3*x3*y3*c*c - x1*x1*x1*x2*x3*x3*y3*y3*y3*c + x1*x1*x1*x2*y2*y2*x3*x3*y3*c + x1*x1*x1*x2*x2*y2*x3*y3*y3*c)
   (y1*y2*y3*c*c - y1*y2*y2*y2*y3*c*c + y1*x2*x3*c*c - y1*x2*y2*y2*x3*c*c + y1*x2*x2*y2*y3*c*c + y1*x2*x2*x2*x3*c*c - y1*y1*y1*y2*y3*c*c + y1*y1*y1*y2*y2*y2*y3*c*c - y1*y1*y1*x2*x3*c*c + y1*y1*y1*x2*y2*y2*x3*c*c - y1*y1*y1*x2*x2*y2*y3*c*c - y1*y1*y1*x2*x2*x2*x3*c*c + x1*y2*x3*c*c - x1*y2*y2*y2*x3*c*c + x1*x2*y3*c*c - x1*x2*y2*y2*y3*c*c + x1*x2*x2*y2*x3*c*c + x1*x2*x2*x2*y3*c*c - x1*y1*y1*y2*x3*c*c + x1*y1*y1*y2*y2*y2*x3*c*c - x1*y1*y1*x2*y3*c*c + x1*y1*y1*x2*y2*y2*y3*c + x1*y1*y1*x2*y2*y2*y3*c*c - x1*y1*y1*x2*x2*y2*x3*c - x1*y1*y1*x2*x2*y2*x3*c*c - x1*y1*y1*x2*x2*x2*y3*c*c + x1*x1*y1*y2*y3*c*c - x1*x1*y1*y2*y2*y2*y3*c*c + x1*x1*y1*x2*x3*c*c - x1*x1*y1*x2*y2*y2*x3*c - x1*x1*y1*x2*y2*y2*x3*c*c + x1*x1*y1*x2*x2*y2*y3*c + x1*x1*y1*x2*x2*y2*y3*c*c + x1*x1*y1*x2*x2*x2*x3*c*c + x1*x1*x1*y2*x3*c*c - x1*x1*x1*y2*y2*y2*x3*c*c + x1*x1*x1*x2*y3*c*c - x1*x1*x1*x2*y2*y2*y3*c*c + x1*x1*x1*x2*x2*y2*x3*c*c + x1*x1*x1*x2*x2*x2*y3*c*c) h1 h2 h3 (by grind)
theorem poly_on (x1 y1 x2 y2 c : Int) (h1 : Z (x1*x1*y1*y1 - c*(y1*y1 - x1*x1 - 1))) (h2 : Z (x2*x2*y2*y2 - c*(y2*y2 - x2*x2 - 1))) :
   Z (c*c*c*(x1*y2+y1*x2)*(x1*y2+y1*x2)*(y1*y2+x1*x2)*(y1*y2+x1*x2) - (c*c*(y1*y2+x1*x2)*(y1*y2+x1*x2)*(c + x1*x2*y1*y2)*(c + x1*x2*y1*y2) - c*c*(x1*y2+y1*x2)*(x1*y2+y1*x2)*(c - x1*x2*y1*y2)*(c - x1*x2*y1*y2) - (c + x1*x2*y1*y2)*(c + x1*x2*y1*y2)*(c - x1*x2*y1*y2)*(c - x1*x2*y1*y2))) :=
 Z.lin2 (y2*y2*y2*y2*c*c*c - 2*x2*x2*y2*y2*c*c - 4*x2*x2*y2*y2*c*c*c + 2*x2*x2*y2*y2*y2*y2*c*c*c + x2*x2*x2*x2*c*c*c - 2*x2*x2*x2*x2*y2*y2*c*c*c - x2*x2*x2*x2*y2*y2*y2*y2*c - 2*x2*x2*x2*x2*y2*y2*y2*y2*c*c - y1*y1*x2*x2*y2*y2*y2*y2*c*c + y1*y1*x2*x2*x2*x2*y2*y2*c*c + y1*y1*x2*x2*x2*x2*y2*y2*y2*y2*c + x1*x1*x2*x2*y2*y2*y2*y2*c*c - x1*x1*x2*x2*x2*x2*y2*y2*c*c - x1*x1*x2*x2*x2*x2*y2*y2*y2*y2*c + x1*x1*y1*y1*x2*x2*x2*x2*y2*y2*y2*y2)
   (c*c*c + y2*y2*c*c*c - x2*x2*c*c*c + x2*x2*y2*y2*c*c + 2*x2*x2*y2*y2*c*c*c - y1*y1*y2*y2*c*c*c + y1*y1*x2*x2*c*c*c - 2*y1*y1*x2*x2*y2*y2*c*c - 2*y1*y1*x2*x2*y2*y2*c*c*c + y1*y1*y1*y1*x2*x2*y2*y2*c*c + x1*x1*y2*y2*c*c*c - x1*x1*x2*x2*c*c*c + 2*x1*x1*x2*x2*y2*y2*c*c + 2*x1*x1*x2*x2*y2*y2*c*c*c + x1*x1*x1*x1*x2*x2*y2*y2*c*c) h1 h2 (by grind)
theorem poly_on2 (X Y u v P M c : Int) (ha : Z (X * P - c * u)) (hb : Z (Y * M - c * v)) (hh : Z (c*c*c*u*u*v*v - (c*c*v*v*P*P - c*c*u*u*M*M - P*P*M*M))) (hP : ¬ Z P) (hM : ¬ Z M) :
   Z (X * X * Y * Y - c * (Y * Y - X * X - 1)) := by
 refine Z.cancel (a := (P * P) * (M * M)) ?_ (Z.not_mul (Z.not_mul hP hP) (Z.not_mul hM hM))
 exact Z.lin3 ((X * P + c * u) * ((Y * M) * (Y * M) + c * M * M)) ((Y * M + c * v) * (c * c * u * u - c * P * P)) c ha hb hh (by grind)
theorem poly_three_x (X Y u v P M c x3 y3 s : Int) (hc : ¬ Z c) (ha : Z (X * P - c * u)) (hb : Z (Y * M - c * v)) (hs : Z (s * (c + X * x3 * Y * y3) - c * (X * y3 + Y * x3))) :
   Z (s * (P * M + c * u * v * x3 * y3) - c * (u * y3 * M + v * x3 * P)) := by
 refine Z.cancel (a := c) ?_ hc
 exact Z.lin3 (P * M) (c * M * y3 - s * x3 * y3 * Y * M) (c * P * x3 - s * x3 * y3 * c * u) hs ha hb (by grind)
theorem poly_three_y (X Y u v P M c x3 y3 s : Int) (hc : ¬ Z c) (ha : Z (X * P - c * u)) (hb : Z (Y * M - c * v)) (hs : Z (s * (c - X * x3 * Y * y3) - c * (Y * y3 + X * x3))) :
   Z (s * (P * M - c * u * v * x3 * y3) - c * (v * y3 * P + u * x3 * M)) := by
 refine Z.cancel (a := c) ?_ hc
 exact Z.lin3 (P * M) (c * M * x3 + s * x3 * y3 * Y * M) (c * P * y3 + s * x3 * y3 * c * u) hs ha hb (by grind)
theorem poly_ne_x (X Y u v P M c x3 y3 : Int) (ha : Z (X * P - c * u)) (hb : Z (Y * M - c * v)) (hP : ¬ Z P) (hM : ¬ Z M) (h : ¬ Z (c + X * x3 * Y * y3)) : ¬ Z (P * M + c * u * v * x3 * y3) := fun hd =>
 h (Z.cancel (a := P * M) (Z.lin3 c (x3 * y3 * Y * M) (x3 * y3 * c * u) hd ha hb (by grind)) (Z.not_mul hP hM))
theorem poly_ne_y (X Y u v P M c x3 y3 : Int) (ha : Z (X * P - c * u)) (hb : Z (Y * M - c * v)) (hP : ¬ Z P) (hM : ¬ Z M) (h : ¬ Z (c - X * x3 * Y * y3)) : ¬ Z (P * M - c * u * v * x3 * y3) := fun hd =>
 h (Z.cancel (a := P * M) (Z.lin3 c (-(x3 * y3 * Y * M)) (-(x3 * y3 * c * u)) hd ha hb (by grind)) (Z.not_mul hP hM))
theorem poly_same (s s' N D N2 D2 c : Int) (h1 : Z (s * D - c * N)) (h2 : Z (s' * D2 - c * N2)) (h3 : Z (N * D2 - N2 * D)) (hD : ¬ Z D) (hD2 : ¬ Z D2) : Z (s - s') := by
 refine Z.cancel (a := D * D2) ?_ (Z.not_mul hD hD2)
 exact Z.lin3 D2 (-D) c h1 h2 h3 (by grind)
def onE (P : Nat × Nat) : Prop := P.1 < p25 ∧ P.2 < p25 ∧ EC (P.1 : Int) (P.2 : Int)
def addE (P Q : Nat × Nat) : Nat × Nat :=
 (quot (cE * ((P.1 : Int) * (Q.2 : Int) + (P.2 : Int) * (Q.1 : Int))) (cE + (P.1 : Int) * (Q.1 : Int) * (P.2 : Int) * (Q.2 : Int)),
  quot (cE * ((P.2 : Int) * (Q.2 : Int) + (P.1 : Int) * (Q.1 : Int))) (cE - (P.1 : Int) * (Q.1 : Int) * (P.2 : Int) * (Q.2 : Int)))
theorem addE_Z {P Q : Nat × Nat} (hP : onE P) (hQ : onE Q) :
   Z (((addE P Q).1 : Int) * (cE + (P.1 : Int) * (Q.1 : Int) * (P.2 : Int) * (Q.2 : Int)) - cE * ((P.1 : Int) * (Q.2 : Int) + (P.2 : Int) * (Q.1 : Int))) ∧
   Z (((addE P Q).2 : Int) * (cE - (P.1 : Int) * (Q.1 : Int) * (P.2 : Int) * (Q.2 : Int)) - cE * ((P.2 : Int) * (Q.2 : Int) + (P.1 : Int) * (Q.1 : Int))) :=
 ⟨quot_Z _ (plus_ne hP.2.2 hQ.2.2), quot_Z _ (minus_ne hP.2.2 hQ.2.2)⟩
theorem addE_on {P Q : Nat × Nat} (hP : onE P) (hQ : onE Q) : onE (addE P Q) := by
 obtain ⟨h1, h2⟩ := addE_Z hP hQ
 refine ⟨quot_lt _ _, quot_lt _ _, ?_⟩
 unfold EC
 exact poly_on2 _ _ _ _ _ _ cE h1 h2 (poly_on _ _ _ _ cE hP.2.2 hQ.2.2) (plus_ne hP.2.2 hQ.2.2) (minus_ne hP.2.2 hQ.2.2)
theorem addE_eq {P Q R : Nat × Nat} (hP : onE P) (hQ : onE Q) (h1 : R.1 < p25) (h2 : R.2 < p25)
   (k1 : Z ((R.1 : Int) * (cE + (P.1 : Int) * (Q.1 : Int) * (P.2 : Int) * (Q.2 : Int)) - cE * ((P.1 : Int) * (Q.2 : Int) + (P.2 : Int) * (Q.1 : Int))))
   (k2 : Z ((R.2 : Int) * (cE - (P.1 : Int) * (Q.1 : Int) * (P.2 : Int) * (Q.2 : Int)) - cE * ((P.2 : Int) * (Q.2 : Int) + (P.1 : Int) * (Q.1 : Int)))) : addE P Q = R :=
 Prod.ext (quot_eq h1 (plus_ne hP.2.2 hQ.2.2) k1).symm (quot_eq h2 (minus_ne hP.2.2 hQ.2.2) k2).symm
theorem addE_comm (P Q : Nat × Nat) : addE P Q = addE Q P := by
 unfold addE
 rw [show (P.1 : Int) * (Q.2 : Int) + (P.2 : Int) * (Q.1 : Int) = (Q.1 : Int) * (P.2 : Int) + (Q.2 : Int) * (P.1 : Int) by grind,
   show (P.2 : Int) * (Q.2 : Int) + (P.1 : Int) * (Q.1 : Int) = (Q.2 : Int) * (P.2 : Int) + (Q.1 : Int) * (P.1 : Int) by grind,
   show (P.1 : Int) * (Q.1 : Int) * (P.2 : Int) * (Q.2 : Int) = (Q.1 : Int) * (P.1 : Int) * (Q.2 : Int) * (P.2 : Int) by grind]
theorem three_x {P Q R : Nat × Nat} (hP : onE P) (hQ : onE Q) (hR : onE R) {x1 y1 x2 y2 x3 y3 : Int} (e1 : x1 = P.1) (e2 : y1 = P.2) (e3 : x2 = Q.1) (e4 : y2 = Q.2) (e5 : x3 = R.1) (e6 : y3 = R.2) :
   Z (((addE (addE P Q) R).1 : Int) * ((cE + x1*x2*y1*y2) * (cE - x1*x2*y1*y2) + cE * (x1*y2+y1*x2) * (y1*y2+x1*x2) * x3 * y3) - cE * ((x1*y2+y1*x2)*y3*(cE - x1*x2*y1*y2) + (y1*y2+x1*x2)*x3*(cE + x1*x2*y1*y2))) ∧
   ¬ Z ((cE + x1*x2*y1*y2) * (cE - x1*x2*y1*y2) + cE * (x1*y2+y1*x2) * (y1*y2+x1*x2) * x3 * y3) := by
 subst e1; subst e2; subst e3; subst e4; subst e5; subst e6
 obtain ⟨h1, h2⟩ := addE_Z hP hQ
 have hS := addE_on hP hQ
 obtain ⟨h3, _⟩ := addE_Z hS hR
 exact ⟨poly_three_x _ _ _ _ _ _ cE _ _ _ c_ne h1 h2 h3, poly_ne_x _ _ _ _ _ _ cE _ _ h1 h2 (plus_ne hP.2.2 hQ.2.2) (minus_ne hP.2.2 hQ.2.2) (plus_ne hS.2.2 hR.2.2)⟩
theorem three_y {P Q R : Nat × Nat} (hP : onE P) (hQ : onE Q) (hR : onE R) {x1 y1 x2 y2 x3 y3 : Int} (e1 : x1 = P.1) (e2 : y1 = P.2) (e3 : x2 = Q.1) (e4 : y2 = Q.2) (e5 : x3 = R.1) (e6 : y3 = R.2) :
   Z (((addE (addE P Q) R).2 : Int) * ((cE + x1*x2*y1*y2) * (cE - x1*x2*y1*y2) - cE * (x1*y2+y1*x2) * (y1*y2+x1*x2) * x3 * y3) - cE * ((y1*y2+x1*x2)*y3*(cE + x1*x2*y1*y2) + (x1*y2+y1*x2)*x3*(cE - x1*x2*y1*y2))) ∧
   ¬ Z ((cE + x1*x2*y1*y2) * (cE - x1*x2*y1*y2) - cE * (x1*y2+y1*x2) * (y1*y2+x1*x2) * x3 * y3) := by
 subst e1; subst e2; subst e3; subst e4; subst e5; subst e6
 obtain ⟨h1, h2⟩ := addE_Z hP hQ
 have hS := addE_on hP hQ
 obtain ⟨_, h3⟩ := addE_Z hS hR
 exact ⟨poly_three_y _ _ _ _ _ _ cE _ _ _ c_ne h1 h2 h3, poly_ne_y _ _ _ _ _ _ cE _ _ h1 h2 (plus_ne hP.2.2 hQ.2.2) (minus_ne hP.2.2 hQ.2.2) (minus_ne hS.2.2 hR.2.2)⟩
theorem addE_assoc {P Q R : Nat × Nat} (hP : onE P) (hQ : onE Q) (hR : onE R) : addE (addE P Q) R = addE P (addE Q R) := by
 rw [addE_comm P (addE Q R)]
 obtain ⟨x1, e1⟩ : ∃ x : Int, x = P.1 := ⟨_, rfl⟩
 obtain ⟨y1, e2⟩ : ∃ x : Int, x = P.2 := ⟨_, rfl⟩
 obtain ⟨x2, e3⟩ : ∃ x : Int, x = Q.1 := ⟨_, rfl⟩
 obtain ⟨y2, e4⟩ : ∃ x : Int, x = Q.2 := ⟨_, rfl⟩
 obtain ⟨x3, e5⟩ : ∃ x : Int, x = R.1 := ⟨_, rfl⟩
 obtain ⟨y3, e6⟩ : ∃ x : Int, x = R.2 := ⟨_, rfl⟩
 have kP := hP.2.2
 have kQ := hQ.2.2
 have kR := hR.2.2
 rw [← e1, ← e2] at kP
 rw [← e3, ← e4] at kQ
 rw [← e5, ← e6] at kR
 obtain ⟨a1, a2⟩ := three_x hP hQ hR e1 e2 e3 e4 e5 e6
 obtain ⟨b1, b2⟩ := three_y hP hQ hR e1 e2 e3 e4 e5 e6
 obtain ⟨c1, c2⟩ := three_x hQ hR hP e3 e4 e5 e6 e1 e2
 obtain ⟨d1, d2⟩ := three_y hQ hR hP e3 e4 e5 e6 e1 e2
 have px := poly_x x1 y1 x2 y2 x3 y3 cE kP kQ kR
 have py := poly_y x1 y1 x2 y2 x3 y3 cE kP kQ kR
 refine Prod.ext (Z.eq (quot_lt _ _) (quot_lt _ _) ?_) (Z.eq (quot_lt _ _) (quot_lt _ _) ?_)
 · exact poly_same _ _ _ _ _ _ cE a1 c1 (px.lin1 1 (by grind)) a2 c2
 · exact poly_same _ _ _ _ _ _ cE b1 d1 (py.lin1 1 (by grind)) b2 d2
def ptO : Nat × Nat := (0, 1)
def negE (P : Nat × Nat) : Nat × Nat := (oppP P.1, P.2)
theorem ptO_on : onE ptO := ⟨p25_pos, Nat.lt_trans (by decide) p25_two, Z.zero.lin1 1 (by unfold ptO; grind)⟩
theorem negE_on {P : Nat × Nat} (hP : onE P) : onE (negE P) := by
 obtain ⟨h1, h2, h3⟩ := hP
 refine ⟨oppP_lt _, h2, ?_⟩
 have ho := Z_oppP P.1
 unfold EC at *
 show Z (((oppP P.1 : Nat) : Int) * ((oppP P.1 : Nat) : Int) * (P.2 : Int) * (P.2 : Int) - cE * ((P.2 : Int) * (P.2 : Int) - ((oppP P.1 : Nat) : Int) * ((oppP P.1 : Nat) : Int) - 1))
 generalize ((oppP P.1 : Nat) : Int) = o at *
 generalize (P.1 : Int) = x at *
 generalize (P.2 : Int) = y at *
 exact Z.lin2 1 ((o - x) * (y * y + cE)) h3 ho (by grind)
theorem addE_zero {P : Nat × Nat} (hP : onE P) : addE P ptO = P := by
 refine addE_eq hP ptO_on hP.1 hP.2.1 (Z.zero.lin1 1 ?_) (Z.zero.lin1 1 ?_) <;> unfold ptO <;> grind
theorem addE_neg {P : Nat × Nat} (hP : onE P) : addE P (negE P) = ptO := by
 refine addE_eq hP (negE_on hP) ptO_on.1 ptO_on.2.1 ?_ ?_
 · have ho := Z_oppP P.1
   unfold ptO negE
   show Z (((0 : Nat) : Int) * (cE + (P.1 : Int) * ((oppP P.1 : Nat) : Int) * (P.2 : Int) * (P.2 : Int)) - cE * ((P.1 : Int) * (P.2 : Int) + (P.2 : Int) * ((oppP P.1 : Nat) : Int)))
   generalize ((oppP P.1 : Nat) : Int) = o at *
   generalize (P.1 : Int) = x at *
   generalize (P.2 : Int) = y at *
   exact Z.lin1 (-(cE * y)) ho (by grind)
 · have ho := Z_oppP P.1
   have h3 := hP.2.2
   unfold EC at h3
   unfold ptO negE
   show Z (((1 : Nat) : Int) * (cE - (P.1 : Int) * ((oppP P.1 : Nat) : Int) * (P.2 : Int) * (P.2 : Int)) - cE * ((P.2 : Int) * (P.2 : Int) + (P.1 : Int) * ((oppP P.1 : Nat) : Int)))
   generalize ((oppP P.1 : Nat) : Int) = o at *
   generalize (P.1 : Int) = x at *
   generalize (P.2 : Int) = y at *
   exact Z.lin2 1 (-(x * y * y) - cE * x) h3 ho (by grind)
def mulE : Nat → Nat × Nat → Nat × Nat
 | 0, _ => ptO
 | n + 1, P => addE (mulE n P) P
theorem mulE_on {P : Nat × Nat} (hP : onE P) : ∀ n, onE (mulE n P)
 | 0 => ptO_on
 | n + 1 => addE_on (mulE_on hP n) hP
theorem mulE_one {P : Nat × Nat} (hP : onE P) : mulE 1 P = P := by
 show addE ptO P = P
 rw [addE_comm, addE_zero hP]
theorem mulE_add {P : Nat × Nat} (hP : onE P) (m : Nat) : ∀ n, mulE (m + n) P = addE (mulE m P) (mulE n P)
 | 0 => (addE_zero (mulE_on hP m)).symm
 | n + 1 => by
   show addE (mulE (m + n) P) P = addE (mulE m P) (addE (mulE n P) P)
   rw [mulE_add hP m n, addE_assoc (mulE_on hP m) (mulE_on hP n) hP]
theorem mulE_mul {P : Nat × Nat} (hP : onE P) (m : Nat) : ∀ n, mulE (m * n) P = mulE n (mulE m P)
 | 0 => rfl
 | n + 1 => by
   rw [Nat.mul_succ, mulE_add hP, mulE_mul hP m n]
   rfl
end Go.Proofs.YtonhpmaiagbheaaGreat
namespace Go.Proofs.YtonhpmaiagbheaaGreat
theorem Z.mulc {a a' b b' : Int} (h : Z (a - a')) (k : Z (b - b')) : Z (a * b - a' * b') := Z.lin2 b a' h k (by grind)
theorem Z.addc {a a' b b' : Int} (h : Z (a - a')) (k : Z (b - b')) : Z (a + b - (a' + b')) := Z.lin2 1 1 h k (by grind)
theorem Z.subc {a a' b b' : Int} (h : Z (a - a')) (k : Z (b - b')) : Z (a - b - (a' - b')) := Z.lin2 1 (-1) h k (by grind)
theorem Z.trans {a b c : Int} (h : Z (a - b)) (k : Z (b - c)) : Z (a - c) := Z.lin2 1 1 h k (by grind)
theorem Z.symm {a b : Int} (h : Z (a - b)) : Z (b - a) := h.lin1 (-1) (by grind)
theorem Z.rfl' (a : Int) : Z (a - a) := Z.zero.lin1 1 (by grind)
theorem Z.two : ¬ Z 2 := fun h => by
 have := (Z.nat (a := 2) p25_two).1 h
 cases this
theorem Z.sq {a : Int} (h : Z (a * a)) : Z a := by rcases h.prime with h | h <;> exact h
theorem a24_c : Z (121665 * cE + 121666) := by
 have h : Eqm p25 (121665 * cN + 121666) 0 := by unfold Eqm; decide +kernel
 have h2 := Z_of_Eqm h
 rw [Int.natCast_add, Int.natCast_mul] at h2
 exact h2.lin1 1 (by unfold cE; omega)
theorem c_one : ¬ Z (cE + 1) := fun h => by
 have h2 := a24_c
 generalize cE = c at *
 exact Z.one (Z.lin2 1 (-121665) h2 h (by grind))
def Rep (P : Nat × Nat) (X W : Int) : Prop := ∃ l : Int, ¬ Z l ∧ Z (X - l * (1 + (P.2 : Int))) ∧ Z (W - l * (1 - (P.2 : Int)))
theorem poly_dbl (x y c r X W X' W' l h g : Int) (hc : Z (c * h - 1)) (hc1 : ¬ Z (c + 1)) (ha : Z (121665 * c + 121666)) (hg : g = 1 + 121665 * (1 - y * y)) (hP : Z (x * x * y * y - c * (y * y - x * x - 1)))
   (hr : Z (r * (c - x * x * y * y) - c * (y * y + x * x))) (h1 : Z (X - l * (1 + y))) (h2 : Z (W - l * (1 - y)))
   (hX : Z (X' - ((X + W) * (X + W)) * ((X - W) * (X - W)))) (hW : Z (W' - ((X + W) * (X + W) - (X - W) * (X - W)) * ((X + W) * (X + W) + 121665 * ((X + W) * (X + W) - (X - W) * (X - W))))) :
   Z (X' - (8 * (l * l) * (l * l) * g * (c - x * x * y * y) * h) * (1 + r)) ∧ Z (W' - (8 * (l * l) * (l * l) * g * (c - x * x * y * y) * h) * (1 - r)) := by
 have hA : Z (X + W - 2 * l) := Z.lin2 1 1 h1 h2 (by grind)
 have hB : Z (X - W - 2 * l * y) := Z.lin2 1 (-1) h1 h2 (by grind)
 have hAA := hA.mulc hA
 have hBB := hB.mulc hB
 have hE := hAA.subc hBB
 have hX2 := hX.trans (hAA.mulc hBB)
 have hW2 := hW.trans (hE.mulc (hAA.addc ((Z.rfl' 121665).mulc hE)))
 clear hX hW hAA hBB hE hA hB h1 h2
 have kg : Z (y * y - g * (1 + x * x)) := by
   refine Z.cancel (a := c + 1) ?_ hc1
   exact Z.lin2 (-1) (-((1 - y * y) * (1 + x * x))) hP ha (by grind)
 have kr : Z ((c - x * x * y * y) * (1 + r) - 2 * c * (1 + x * x)) := Z.lin2 1 (-1) hr hP (by grind)
 have ks : Z ((c - x * x * y * y) * (1 - r) - 2 * c * (1 - y * y)) := Z.lin2 (-1) (-1) hr hP (by grind)
 constructor
 · refine hX2.trans ?_
   exact Z.lin3 (16 * (l * l) * (l * l)) (-(8 * (l * l) * (l * l) * g * h)) (-(16 * (l * l) * (l * l) * g * (1 + x * x))) kg kr hc (by grind)
 · refine hW2.trans ?_
   exact Z.lin2 (-(8 * (l * l) * (l * l) * g * h)) (-(16 * (l * l) * (l * l) * g * (1 - y * y))) ks hc (by grind)
theorem rep_dbl {P : Nat × Nat} (hP : onE P) {X W X' W' : Int} (hR : Rep P X W)
   (hX : Z (X' - ((X + W) * (X + W)) * ((X - W) * (X - W)))) (hW : Z (W' - ((X + W) * (X + W) - (X - W) * (X - W)) * ((X + W) * (X + W) + 121665 * ((X + W) * (X + W) - (X - W) * (X - W))))) :
   Rep (addE P P) X' W' := by
 obtain ⟨l, hl, h1, h2⟩ := hR
 obtain ⟨h, hh⟩ := Z.inv c_ne
 obtain ⟨_, hr⟩ := addE_Z hP hP
 have hne := minus_ne hP.2.2 hP.2.2
 have hcy := c_sqn (P.2 : Int)
 have ha := a24_c
 have hE := hP.2.2
 unfold EC at hE
 have hc1 := c_one
 have hc := c_ne
 unfold Rep
 generalize ((addE P P).2 : Int) = r at *
 generalize (P.1 : Int) = x at *
 generalize (P.2 : Int) = y at *
 generalize cE = c at *
 obtain ⟨g, hg⟩ : ∃ g, g = 1 + 121665 * (1 - y * y) := ⟨_, rfl⟩
 refine ⟨_, ?_, poly_dbl x y c r X W X' W' l h g hh hc1 ha hg hE (hr.lin1 1 (by grind)) h1 h2 hX hW⟩
 have hgz : ¬ Z g := fun hz => hcy (Z.lin2 (c + 1) (-(1 - y * y)) hz ha (by grind))
 have hhz : ¬ Z h := fun hz => Z.one (Z.lin2 c (-1) hz hh (by grind))
 have h8 : ¬ Z 8 := fun hz => by
   have h3 : Z (2 * (2 * 2)) := hz
   rcases h3.prime with h4 | h4
   · exact Z.two h4
   · exact Z.two h4.sq
 exact Z.not_mul (Z.not_mul (Z.not_mul (Z.not_mul (Z.not_mul h8 (Z.not_mul hl hl)) (Z.not_mul hl hl)) hgz) (fun hz => hne (hz.lin1 1 (by grind)))) hhz
theorem poly_diff (x1 y1 x2 y2 c s d w : Int) (hw : w = x1 * x2 * y1 * y2) (hP : Z (x1 * x1 * y1 * y1 - c * (y1 * y1 - x1 * x1 - 1))) (hQ : Z (x2 * x2 * y2 * y2 - c * (y2 * y2 - x2 * x2 - 1)))
   (hs : Z (s * (c - w) - c * (y1 * y2 + x1 * x2))) (hd : Z (d * (c + w) - c * (y1 * y2 - x1 * x2))) (hm : ¬ Z (c - w)) (hp : ¬ Z (c + w)) :
   Z ((1 + s) * (1 + d) * ((y2 - y1) * (y2 - y1)) - (1 - s) * (1 - d) * ((y1 + y2) * (y1 + y2))) := by
 refine Z.cancel (a := (c - w) * (c + w)) ?_ (Z.not_mul hm hp)
 exact Z.lin4 (4*y1*x2*x2*y2*c + 4*y1*x2*x2*y2*y2*y2) (-4*y1*y2*c + 4*y1*y1*y1*y2*c)
   ((y2 - y1) * (y2 - y1) * (c + w) * (1 + d) + (y1 + y2) * (y1 + y2) * (c + w) * (1 - d))
   ((y2 - y1) * (y2 - y1) * (c - w + c * (y1 * y2 + x1 * x2)) + (y1 + y2) * (y1 + y2) * (c - w - c * (y1 * y2 + x1 * x2))) hP hQ hs hd (by grind)
theorem poly_end (x1 y1 x2 y2 c d w : Int) (hc : ¬ Z c) (hw : w = x1 * x2 * y1 * y2) (hP : Z (x1 * x1 * y1 * y1 - c * (y1 * y1 - x1 * x1 - 1))) (hQ : Z (x2 * x2 * y2 * y2 - c * (y2 * y2 - x2 * x2 - 1)))
   (hd : Z (d * (c + w) - c * (y1 * y2 - x1 * x2))) (h1 : Z y1) (h2 : Z y2) : Z ((1 - d) * (1 + d)) := by
 have k1 : Z (x1 * x1 + 1) := Z.cancel (a := c) (Z.lin2 1 (c * y1 - x1 * x1 * y1) hP h1 (by grind)) hc
 have k2 : Z (x2 * x2 + 1) := Z.cancel (a := c) (Z.lin2 1 (c * y2 - x2 * x2 * y2) hQ h2 (by grind)) hc
 have k3 : Z (d + x1 * x2) := Z.cancel (a := c) (Z.lin2 1 (c * y2 - d * (x1 * x2 * y2)) hd h1 (by grind)) hc
 exact Z.lin3 (-(d - x1 * x2)) (-(x2 * x2)) 1 k3 k1 k2 (by grind)
theorem rep_add {P Q : Nat × Nat} (hP : onE P) (hQ : onE Q) {X W X3 W3 X' W' u d : Int} (hRP : Rep P X W) (hRQ : Rep Q X3 W3)
   (hd : Z (d * (cE + (P.1 : Int) * (Q.1 : Int) * (P.2 : Int) * (Q.2 : Int)) - cE * ((P.2 : Int) * (Q.2 : Int) - (P.1 : Int) * (Q.1 : Int))))
   (hu : Z (u * (1 - d) - (1 + d))) (hd1 : ¬ Z (1 - d)) (hd2 : ¬ Z (1 + d))
   (hX : Z (X' - ((X3 - W3) * (X + W) + (X3 + W3) * (X - W)) * ((X3 - W3) * (X + W) + (X3 + W3) * (X - W))))
   (hW : Z (W' - u * (((X3 - W3) * (X + W) - (X3 + W3) * (X - W)) * ((X3 - W3) * (X + W) - (X3 + W3) * (X - W))))) :
   Rep (addE P Q) X' W' := by
 obtain ⟨l, hl, h1, h2⟩ := hRP
 obtain ⟨m, hm, h3, h4⟩ := hRQ
 obtain ⟨h, hh⟩ := Z.inv Z.two
 obtain ⟨_, hs⟩ := addE_Z hP hQ
 have hmi := minus_ne hP.2.2 hQ.2.2
 have hpl := plus_ne hP.2.2 hQ.2.2
 have hEP := hP.2.2
 have hEQ := hQ.2.2
 unfold EC at hEP hEQ
 have hc := c_ne
 unfold Rep
 generalize ((addE P Q).2 : Int) = s at *
 generalize (P.1 : Int) = x1 at *
 generalize (P.2 : Int) = y1 at *
 generalize (Q.1 : Int) = x2 at *
 generalize (Q.2 : Int) = y2 at *
 generalize cE = c at *
 have hA : Z (X + W - 2 * l) := Z.lin2 1 1 h1 h2 (by grind)
 have hB : Z (X - W - 2 * l * y1) := Z.lin2 1 (-1) h1 h2 (by grind)
 have hC : Z (X3 + W3 - 2 * m) := Z.lin2 1 1 h3 h4 (by grind)
 have hD : Z (X3 - W3 - 2 * m * y2) := Z.lin2 1 (-1) h3 h4 (by grind)
 have hDA := hD.mulc hA
 have hCB := hC.mulc hB
 have hp := hDA.addc hCB
 have hq := hDA.subc hCB
 have hX2 := hX.trans (hp.mulc hp)
 have hW2 := hW.trans ((Z.rfl' u).mulc (hq.mulc hq))
 clear hX hW hA hB hC hD hDA hCB hp hq h1 h2 h3 h4
 have key := poly_diff x1 y1 x2 y2 c s d _ rfl hEP hEQ hs hd hmi hpl
 obtain ⟨k, hk⟩ : ∃ k, k = 16 * (l * l) * (m * m) := ⟨_, rfl⟩
 obtain ⟨M, hM⟩ : ∃ M, M = (y1 + y2) * (y1 + y2) := ⟨_, rfl⟩
 obtain ⟨N, hN⟩ : ∃ N, N = (y2 - y1) * (y2 - y1) := ⟨_, rfl⟩
 have hX3 : Z (X' - k * M) := hX2.lin1 1 (by grind)
 have hW3 : Z (W' - u * k * N) := hW2.lin1 1 (by grind)
 have uk : Z ((1 + s) * u * N - (1 - s) * M) := by
   refine Z.cancel (a := 1 - d) ?_ hd1
   exact Z.lin2 1 ((1 + s) * N) key hu (by grind)
 clear hX2 hW2 key
 have huz : ¬ Z u := fun hz => hd2 (Z.lin2 (1 - d) (-1) hz hu (by grind))
 have hkz : ¬ Z k := by
   rw [hk]
   refine Z.not_mul (Z.not_mul (fun hz => ?_) (Z.not_mul hl hl)) (Z.not_mul hm hm)
   have h3 : Z ((2 * 2) * (2 * 2)) := hz
   exact Z.two h3.sq.sq
 have hhz : ¬ Z h := fun hz => Z.one (Z.lin2 2 (-1) hz hh (by grind))
 refine ⟨k * (M + u * N) * h, ?_, Z.lin3 1 (-(k * M)) (-(k * h)) hX3 hh uk (by grind), Z.lin3 1 (-(k * u * N)) (k * h) hW3 hh uk (by grind)⟩
 refine Z.not_mul (Z.not_mul hkz fun hz => ?_) hhz
 have hM0 : Z M := Z.cancel (a := 2) (Z.lin2 (1 + s) (-1) hz uk (by grind)) Z.two
 have hN0 : Z N := Z.cancel (a := u) (Z.lin2 1 (-1) hz hM0 (by grind)) huz
 rw [hM] at hM0
 rw [hN] at hN0
 have j1 := hM0.sq
 have j2 := hN0.sq
 have i1 : Z y1 := Z.cancel (a := 2) (Z.lin2 1 (-1) j1 j2 (by grind)) Z.two
 have i2 : Z y2 := Z.cancel (a := 2) (Z.lin2 1 1 j1 j2 (by grind)) Z.two
 exact Z.not_mul hd1 hd2 (poly_end x1 y1 x2 y2 c d _ hc rfl hEP hEQ hd i1 i2)
end Go.Proofs.YtonhpmaiagbheaaGreat
namespace Go.Proofs.YtonhpmaiagbheaaGreat
def lAA (x z : Nat) : Nat := mulP (addP x z) (addP x z)
def lBB (x z : Nat) : Nat := mulP (subP p25 x z) (subP p25 x z)
def lEE (x z : Nat) : Nat := subP p25 (lAA x z) (lBB x z)
def lx2 (x z : Nat) : Nat := mulP (lAA x z) (lBB x z)
def lz2 (x z : Nat) : Nat := mulP (lEE x z) (addP (lAA x z) (mulP 121665 (lEE x z)))
def lDA (x2 z2 x3 z3 : Nat) : Nat := mulP (subP p25 x3 z3) (addP x2 z2)
def lCB (x2 z2 x3 z3 : Nat) : Nat := mulP (addP x3 z3) (subP p25 x2 z2)
def lx3 (x2 z2 x3 z3 : Nat) : Nat := mulP (addP (lDA x2 z2 x3 z3) (lCB x2 z2 x3 z3)) (addP (lDA x2 z2 x3 z3) (lCB x2 z2 x3 z3))
def lz3 (u x2 z2 x3 z3 : Nat) : Nat := mulP u (mulP (subP p25 (lDA x2 z2 x3 z3) (lCB x2 z2 x3 z3)) (subP p25 (lDA x2 z2 x3 z3) (lCB x2 z2 x3 z3)))
theorem Z_lAA (x z : Nat) : Z ((lAA x z : Int) - ((x : Int) + z) * ((x : Int) + z)) := (Z_mulP _ _).trans ((Z_addP x z).mulc (Z_addP x z))
theorem Z_lBB (x z : Nat) : Z ((lBB x z : Int) - ((x : Int) - z) * ((x : Int) - z)) := (Z_mulP _ _).trans ((Z_subP x z).mulc (Z_subP x z))
theorem Z_lEE (x z : Nat) : Z ((lEE x z : Int) - (((x : Int) + z) * ((x : Int) + z) - ((x : Int) - z) * ((x : Int) - z))) := (Z_subP _ _).trans ((Z_lAA x z).subc (Z_lBB x z))
theorem Z_lx2 (x z : Nat) : Z ((lx2 x z : Int) - (((x : Int) + z) * ((x : Int) + z)) * (((x : Int) - z) * ((x : Int) - z))) := (Z_mulP _ _).trans ((Z_lAA x z).mulc (Z_lBB x z))
theorem Z_lz2 (x z : Nat) : Z ((lz2 x z : Int) - (((x : Int) + z) * ((x : Int) + z) - ((x : Int) - z) * ((x : Int) - z)) * (((x : Int) + z) * ((x : Int) + z) + 121665 * (((x : Int) + z) * ((x : Int) + z) - ((x : Int) - z) * ((x : Int) - z)))) :=
 (Z_mulP _ _).trans ((Z_lEE x z).mulc ((Z_addP _ _).trans ((Z_lAA x z).addc ((Z_mulP 121665 (lEE x z)).trans ((Z.rfl' 121665).mulc (Z_lEE x z))))))
theorem Z_lDA (x2 z2 x3 z3 : Nat) : Z ((lDA x2 z2 x3 z3 : Int) - ((x3 : Int) - z3) * ((x2 : Int) + z2)) := (Z_mulP _ _).trans ((Z_subP x3 z3).mulc (Z_addP x2 z2))
theorem Z_lCB (x2 z2 x3 z3 : Nat) : Z ((lCB x2 z2 x3 z3 : Int) - ((x3 : Int) + z3) * ((x2 : Int) - z2)) := (Z_mulP _ _).trans ((Z_addP x3 z3).mulc (Z_subP x2 z2))
theorem Z_lx3 (x2 z2 x3 z3 : Nat) : Z ((lx3 x2 z2 x3 z3 : Int) - (((x3 : Int) - z3) * ((x2 : Int) + z2) + ((x3 : Int) + z3) * ((x2 : Int) - z2)) * (((x3 : Int) - z3) * ((x2 : Int) + z2) + ((x3 : Int) + z3) * ((x2 : Int) - z2))) := by
 have h := (Z_addP _ _).trans ((Z_lDA x2 z2 x3 z3).addc (Z_lCB x2 z2 x3 z3))
 exact (Z_mulP _ _).trans (h.mulc h)
theorem Z_lz3 (u x2 z2 x3 z3 : Nat) : Z ((lz3 u x2 z2 x3 z3 : Int) - (u : Int) * ((((x3 : Int) - z3) * ((x2 : Int) + z2) - ((x3 : Int) + z3) * ((x2 : Int) - z2)) * (((x3 : Int) - z3) * ((x2 : Int) + z2) - ((x3 : Int) + z3) * ((x2 : Int) - z2)))) := by
 have h := (Z_subP _ _).trans ((Z_lDA x2 z2 x3 z3).subc (Z_lCB x2 z2 x3 z3))
 exact (Z_mulP _ _).trans ((Z.rfl' (u : Int)).mulc ((Z_mulP _ _).trans (h.mulc h)))
theorem rep_dblN {P : Nat × Nat} (hP : onE P) {x z : Nat} (h : Rep P x z) : Rep (addE P P) (lx2 x z) (lz2 x z) := rep_dbl hP h (Z_lx2 x z) (Z_lz2 x z)
theorem rep_addN {P Q : Nat × Nat} (hP : onE P) (hQ : onE Q) {x2 z2 x3 z3 u : Nat} {d : Int} (h1 : Rep P x2 z2) (h2 : Rep Q x3 z3)
   (hd : Z (d * (cE + (P.1 : Int) * (Q.1 : Int) * (P.2 : Int) * (Q.2 : Int)) - cE * ((P.2 : Int) * (Q.2 : Int) - (P.1 : Int) * (Q.1 : Int))))
   (hu : Z ((u : Int) * (1 - d) - (1 + d))) (hd1 : ¬ Z (1 - d)) (hd2 : ¬ Z (1 + d)) : Rep (addE P Q) (lx3 x2 z2 x3 z3) (lz3 u x2 z2 x3 z3) :=
 rep_add hP hQ h1 h2 hd hu hd1 hd2 (Z_lx3 x2 z2 x3 z3) (Z_lz3 u x2 z2 x3 z3)
def ladStep (u b : Nat) (s : Nat × (Nat × Nat) × (Nat × Nat)) : Nat × (Nat × Nat) × (Nat × Nat) :=
 let f := if s.1 = b then s.2.1 else s.2.2
 let g := if s.1 = b then s.2.2 else s.2.1
 (b, (lx2 f.1 f.2, lz2 f.1 f.2), (lx3 f.1 f.2 g.1 g.2, lz3 u f.1 f.2 g.1 g.2))
def ladS (u K : Nat) : Nat → Nat × (Nat × Nat) × (Nat × Nat)
 | 0 => (0, (1, 0), (u, 1))
 | i + 1 => ladStep u (K / 2 ^ (254 - i) % 2) (ladS u K i)
def ladEnd (s : Nat × (Nat × Nat) × (Nat × Nat)) : Nat := let f := if s.1 = 1 then s.2.2 else s.2.1; mulP f.1 (invP f.2)
def ladder (u K : Nat) : Nat := ladEnd (ladS u K 255)
def LadI (P : Nat × Nat) (n : Nat) (s : Nat × (Nat × Nat) × (Nat × Nat)) : Prop :=
 (s.1 = 0 ∧ Rep (mulE n P) s.2.1.1 s.2.1.2 ∧ Rep (mulE (n + 1) P) s.2.2.1 s.2.2.2) ∨ (s.1 = 1 ∧ Rep (mulE (n + 1) P) s.2.1.1 s.2.1.2 ∧ Rep (mulE n P) s.2.2.1 s.2.2.2)
theorem diff_n {P : Nat × Nat} (hP : onE P) (n : Nat) :
   Z ((P.2 : Int) * (cE + ((mulE n P).1 : Int) * ((mulE (n + 1) P).1 : Int) * ((mulE n P).2 : Int) * ((mulE (n + 1) P).2 : Int)) - cE * (((mulE n P).2 : Int) * ((mulE (n + 1) P).2 : Int) - ((mulE n P).1 : Int) * ((mulE (n + 1) P).1 : Int))) := by
 have hn := mulE_on hP n
 have h1 : addE (mulE (n + 1) P) (negE (mulE n P)) = P := by
   show addE (addE (mulE n P) P) (negE (mulE n P)) = P
   rw [addE_comm (mulE n P) P, addE_assoc hP hn (negE_on hn), addE_neg hn, addE_zero hP]
 obtain ⟨_, h2⟩ := addE_Z (mulE_on hP (n + 1)) (negE_on hn)
 rw [h1] at h2
 have ho := Z_oppP (mulE n P).1
 have e1 : (negE (mulE n P)).1 = oppP (mulE n P).1 := rfl
 have e2 : (negE (mulE n P)).2 = (mulE n P).2 := rfl
 rw [e1, e2] at h2
 generalize ((oppP (mulE n P).1 : Nat) : Int) = o at *
 generalize ((mulE (n + 1) P).1 : Int) = x2 at *
 generalize ((mulE (n + 1) P).2 : Int) = y2 at *
 generalize ((mulE n P).1 : Int) = x1 at *
 generalize ((mulE n P).2 : Int) = y1 at *
 generalize (P.2 : Int) = d at *
 generalize cE = c at *
 exact Z.lin2 1 (c * x2 + d * x2 * y2 * y1) h2 ho (by grind)
theorem LadI.step {P : Nat × Nat} (hP : onE P) {u : Nat} (h1 : ¬ Z (1 - (P.2 : Int))) (h2 : ¬ Z (1 + (P.2 : Int))) (hu : Z ((u : Int) * (1 - (P.2 : Int)) - (1 + (P.2 : Int)))) {n b : Nat} (hb : b < 2)
   {s : Nat × (Nat × Nat) × (Nat × Nat)} (h : LadI P n s) : LadI P (2 * n + b) (ladStep u b s) := by
 have hn := mulE_on hP n
 have hn1 := mulE_on hP (n + 1)
 have hd := diff_n hP n
 have e0 : addE (mulE n P) (mulE n P) = mulE (2 * n) P := by rw [← mulE_add hP, Nat.two_mul]
 have e1 : addE (mulE n P) (mulE (n + 1) P) = mulE (2 * n + 1) P := by rw [← mulE_add hP]; congr 1; omega
 have e2 : addE (mulE (n + 1) P) (mulE (n + 1) P) = mulE (2 * n + 1 + 1) P := by rw [← mulE_add hP]; congr 1; omega
 have key : ∃ f g : Nat × Nat, ladStep u b s = (b, (lx2 f.1 f.2, lz2 f.1 f.2), (lx3 f.1 f.2 g.1 g.2, lz3 u f.1 f.2 g.1 g.2)) ∧
     (b = 0 → Rep (mulE n P) f.1 f.2 ∧ Rep (mulE (n + 1) P) g.1 g.2) ∧ (b = 1 → Rep (mulE (n + 1) P) f.1 f.2 ∧ Rep (mulE n P) g.1 g.2) := by
   refine ⟨_, _, rfl, fun h0 => ?_, fun h0 => ?_⟩ <;> rcases h with ⟨hs, k1, k2⟩ | ⟨hs, k1, k2⟩ <;> rw [h0, hs]
   · exact ⟨k1, k2⟩
   · exact ⟨k2, k1⟩
   · exact ⟨k2, k1⟩
   · exact ⟨k1, k2⟩
 obtain ⟨f, g, hs, k0, k1⟩ := key
 rw [hs]
 rcases (show b = 0 ∨ b = 1 by omega) with h0 | h0
 · obtain ⟨r1, r2⟩ := k0 h0
   left
   subst h0
   refine ⟨rfl, ?_, ?_⟩
   · rw [Nat.add_zero, ← e0]
     exact rep_dblN hn r1
   · rw [Nat.add_zero, ← e1]
     exact rep_addN hn hn1 r1 r2 hd hu h1 h2
 · obtain ⟨r1, r2⟩ := k1 h0
   right
   subst h0
   refine ⟨rfl, ?_, ?_⟩
   · rw [← e2]
     exact rep_dblN hn1 r1
   · rw [← e1, addE_comm]
     refine rep_addN hn1 hn r1 r2 (hd.lin1 1 ?_) hu h1 h2
     grind
end Go.Proofs.YtonhpmaiagbheaaGreat
namespace Go.Proofs.YtonhpmaiagbheaaGreat
theorem lp0 : IsPrime 531581 := prime_small 531581 729 (by decide) (by decide) (by decide +kernel)
theorem lp1 : IsPrime 1224481 := prime_small 1224481 1106 (by decide) (by decide) (by decide +kernel)
theorem lp2 : IsPrime 1257559732178653 := prime_by2 (q := 1224481) (m := 1027014492) (a := 2) (f := 51) (q' := 531581) (m' := 2365697292) (a' := 2) lp1 lp0 (by decide +kernel) (by decide +kernel) (by decide +kernel) (by decide +kernel) (by decide +kernel) (by decide +kernel) (by decide +kernel) (by decide +kernel) (by decide +kernel) (by decide +kernel)
theorem lp3 : IsPrime 4434155615661930479 := prime_by1 (q := 1257559732178653) (m := 3526) (a := 2) (f := 62) lp2 (by decide +kernel) (by decide +kernel) (by decide +kernel) (by decide +kernel) (by decide +kernel) (by decide +kernel)
theorem lp4 : IsPrime 172054593956031949258510691 := prime_by1 (q := 4434155615661930479) (m := 38802110) (a := 2) (f := 88) lp3 (by decide +kernel) (by decide +kernel) (by decide +kernel) (by decide +kernel) (by decide +kernel) (by decide +kernel)
theorem lp5 : IsPrime 19757330305831588566944191468367130476339 := prime_by1 (q := 172054593956031949258510691) (m := 114831751082918) (a := 2) (f := 134) lp4 (by decide +kernel) (by decide +kernel) (by decide +kernel) (by decide +kernel) (by decide +kernel) (by decide +kernel)
theorem lp6 : IsPrime 276602624281642239937218680557139826668747 := prime_by1 (q := 19757330305831588566944191468367130476339) (m := 14) (a := 2) (f := 138) lp5 (by decide +kernel) (by decide +kernel) (by decide +kernel) (by decide +kernel) (by decide +kernel) (by decide +kernel)
theorem lp7 : IsPrime 7237005577332262213973186563042994240857116359379907606001950938285454250989 := prime_by1 (q := 276602624281642239937218680557139826668747) (m := 26163907866482859529727157400808004) (a := 2) (f := 253) lp6 (by decide +kernel) (by decide +kernel) (by decide +kernel) (by decide +kernel) (by decide +kernel) (by decide +kernel)
def ordL : Nat := 7237005577332262213973186563042994240857116359379907606001950938285454250989
theorem prime_L : IsPrime ordL := lp7
def ptB : Nat × Nat := (15112221349535400772501151409588531511454012693041857206046113283949847762202, 46316835694926478169428394003475163141307993866256225615783033603165251855960)
theorem ptB_on : onE ptB := by
 refine ⟨by decide +kernel, by decide +kernel, ?_⟩
 have h : Eqm p25 (ptB.1 * ptB.1 * ptB.2 * ptB.2 + cN * (ptB.1 * ptB.1 + 1)) (cN * (ptB.2 * ptB.2)) := by unfold Eqm; decide +kernel
 have h2 := Z_of_Eqm h
 unfold EC cE
 refine h2.lin1 1 ?_
 simp only [Int.natCast_add, Int.natCast_mul]
 generalize (ptB.1 : Int) = x
 generalize (ptB.2 : Int) = y
 generalize (cN : Int) = c
 grind
def Clamped (a : Nat) : Prop := 2 ^ 254 ≤ a ∧ a < 2 ^ 255 ∧ 8 ∣ a
theorem ord_great : 2 ^ 255 < 8 * ordL := by decide +kernel
theorem ord_odd : ¬ ordL ∣ 8 := by decide +kernel
theorem Clamped.ne {a : Nat} (h : Clamped a) : ¬ ordL ∣ a := fun hd => by
 obtain ⟨h1, h2, k, rfl⟩ := h
 rcases prime_L.dvd_mul hd with h3 | h3
 · exact ord_odd h3
 · have h4 := ord_great
   have h5 : k = 0 := Nat.eq_zero_of_dvd_of_lt h3 (by omega)
   subst h5
   have : 0 < 2 ^ 254 := Nat.pow_pos (by decide)
   omega
end Go.Proofs.YtonhpmaiagbheaaGreat
namespace Go.Proofs.YtonhpmaiagbheaaGreat
def dP : Nat := mulP (oppP 121665) (invP 121666)
theorem dP_lt : dP < p25 := mulP_lt _ _
theorem small_ne (n : Nat) (h : n < 1000000) (h0 : n ≠ 0) : ¬ Z (n : Int) := fun hz => h0 ((Z.nat (Nat.lt_trans h (by decide +kernel))).1 hz)
theorem d_c : Z (cE * (dP : Int) - 1) := by
 have h1 := Z_oppP 121665
 have hne := small_ne 121666 (by decide) (by decide)
 have h2 := Z_invP (a := 121666) (Nat.lt_trans (show 121666 < 1000000 by decide) (by decide +kernel)) hne
 have h3 := Z_mulP (oppP 121665) (invP 121666)
 have h4 := a24_c
 have e : (mulP (oppP 121665) (invP 121666) : Nat) = dP := rfl
 rw [e] at h3
 generalize ((oppP 121665 : Nat) : Int) = o at *
 generalize ((invP 121666 : Nat) : Int) = i at *
 generalize ((dP : Nat) : Int) = d at *
 generalize cE = c at *
 refine Z.cancel (a := ((121666 : Nat) : Int)) ?_ hne
 exact Z.lin4 (121666 * c) (c * 121666 * i) (-(121665 * c)) (-1) h3 h1 h2 h4 (by grind)
def RepP (P : Nat × Nat) (X Y W : Int) : Prop := ¬ Z W ∧ Z (X - (P.1 : Int) * W) ∧ Z (Y - (P.2 : Int) * W)
theorem poly_padd (x1 y1 x2 y2 c d r s X1 Y1 W1 X2 Y2 W2 z e f g h X3 Y3 W3 : Int) (hc : ¬ Z c) (hcd : Z (c * d - 1))
   (hr : Z (r * (c + x1 * x2 * y1 * y2) - c * (x1 * y2 + y1 * x2))) (hs : Z (s * (c - x1 * x2 * y1 * y2) - c * (y1 * y2 + x1 * x2)))
   (a1 : Z (X1 - x1 * W1)) (b1 : Z (Y1 - y1 * W1)) (a2 : Z (X2 - x2 * W2)) (b2 : Z (Y2 - y2 * W2))
   (hz : Z (z - W1 * W2)) (he : Z (e - d * ((X1 * X2) * (Y1 * Y2)))) (hf : Z (f - (z * z - e))) (hg : Z (g - (z * z + e))) (hh : Z (h - (X1 * Y2 + X2 * Y1)))
   (hX : Z (X3 - z * f * h)) (hY : Z (Y3 - z * g * (Y1 * Y2 + X1 * X2))) (hW : Z (W3 - f * g)) :
   Z (c * f - z * z * (c - x1 * x2 * y1 * y2)) ∧ Z (c * g - z * z * (c + x1 * x2 * y1 * y2)) ∧ Z (X3 - r * W3) ∧ Z (Y3 - s * W3) := by
 have kx : Z (X1 * X2 - x1 * x2 * (W1 * W2)) := (a1.mulc a2).trans (Z.zero.lin1 1 (by grind))
 have ky : Z (Y1 * Y2 - y1 * y2 * (W1 * W2)) := (b1.mulc b2).trans (Z.zero.lin1 1 (by grind))
 have kxz : Z (X1 * X2 - x1 * x2 * z) := Z.lin2 1 (-(x1 * x2)) kx hz (by grind)
 have kyz : Z (Y1 * Y2 - y1 * y2 * z) := Z.lin2 1 (-(y1 * y2)) ky hz (by grind)
 have ke : Z (e - d * ((x1 * x2 * z) * (y1 * y2 * z))) := he.trans ((Z.rfl' d).mulc (kxz.mulc kyz))
 have kh : Z (h - (x1 * y2 + y1 * x2) * z) := Z.lin3 1 1 (-(x1 * y2 + y1 * x2)) hh (((a1.mulc b2).addc (a2.mulc b1)) : Z (X1 * Y2 + X2 * Y1 - (x1 * W1 * (y2 * W2) + x2 * W2 * (y1 * W1)))) hz (by grind)
 have kf : Z (c * f - z * z * (c - x1 * x2 * y1 * y2)) := Z.lin3 c (-c) (-(x1 * x2 * y1 * y2 * z * z)) hf ke hcd (by grind)
 have kg : Z (c * g - z * z * (c + x1 * x2 * y1 * y2)) := Z.lin3 c c (x1 * x2 * y1 * y2 * z * z) hg ke hcd (by grind)
 have krg : Z (r * g - z * z * (x1 * y2 + y1 * x2)) := Z.cancel (a := c) (Z.lin2 r (z * z) kg hr (by grind)) hc
 have ksf : Z (s * f - z * z * (y1 * y2 + x1 * x2)) := Z.cancel (a := c) (Z.lin2 s (z * z) kf hs (by grind)) hc
 refine ⟨kf, kg, ?_, ?_⟩
 · exact Z.lin4 1 (z * f) (-f) (-r) hX kh krg hW (by grind)
 · have kv : Z (Y1 * Y2 + X1 * X2 - (y1 * y2 + x1 * x2) * z) := Z.lin2 1 1 kyz kxz (by grind)
   exact Z.lin4 1 (z * g) (-g) (-s) hY kv ksf hW (by grind)
theorem rep_padd {P Q : Nat × Nat} (hP : onE P) (hQ : onE Q) {d X1 Y1 W1 X2 Y2 W2 z e f g h X3 Y3 W3 : Int} (hcd : Z (cE * d - 1)) (h1 : RepP P X1 Y1 W1) (h2 : RepP Q X2 Y2 W2)
   (hz : Z (z - W1 * W2)) (he : Z (e - d * ((X1 * X2) * (Y1 * Y2)))) (hf : Z (f - (z * z - e))) (hg : Z (g - (z * z + e))) (hh : Z (h - (X1 * Y2 + X2 * Y1)))
   (hX : Z (X3 - z * f * h)) (hY : Z (Y3 - z * g * (Y1 * Y2 + X1 * X2))) (hW : Z (W3 - f * g)) : RepP (addE P Q) X3 Y3 W3 := by
 obtain ⟨n1, a1, b1⟩ := h1
 obtain ⟨n2, a2, b2⟩ := h2
 obtain ⟨hr, hs⟩ := addE_Z hP hQ
 have hp := plus_ne hP.2.2 hQ.2.2
 have hm := minus_ne hP.2.2 hQ.2.2
 obtain ⟨kf, kg, k3, k4⟩ := poly_padd _ _ _ _ cE d _ _ X1 Y1 W1 X2 Y2 W2 z e f g h X3 Y3 W3 c_ne hcd hr hs a1 b1 a2 b2 hz he hf hg hh hX hY hW
 refine ⟨fun hw => ?_, k3, k4⟩
 have nz : ¬ Z z := fun h => Z.not_mul n1 n2 (Z.lin2 1 (-1) h hz (by grind))
 have nzz := Z.not_mul nz nz
 have nf : ¬ Z f := fun h => Z.not_mul nzz hm (Z.lin2 cE (-1) h kf (by grind))
 have ng : ¬ Z g := fun h => Z.not_mul nzz hp (Z.lin2 cE (-1) h kg (by grind))
 exact Z.not_mul nf ng (Z.lin2 1 (-1) hw hW (by grind))
theorem repP_zero : RepP ptO 0 1 1 := ⟨Z.one, Z.zero.lin1 1 (by unfold ptO; grind), Z.zero.lin1 1 (by unfold ptO; grind)⟩
theorem repP_aff (P : Nat × Nat) : RepP P P.1 P.2 1 := ⟨Z.one, Z.zero.lin1 1 (by grind), Z.zero.lin1 1 (by grind)⟩
theorem repP_same {P Q : Nat × Nat} (hP : onE P) (hQ : onE Q) {X1 Y1 W1 X2 Y2 W2 : Int} (h1 : RepP P X1 Y1 W1) (h2 : RepP Q X2 Y2 W2) : P = Q ↔ Z (X1 * W2 - X2 * W1) ∧ Z (Y1 * W2 - Y2 * W1) := by
 obtain ⟨n1, a1, b1⟩ := h1
 obtain ⟨n2, a2, b2⟩ := h2
 constructor
 · intro e
   subst e
   generalize (P.1 : Int) = x at *
   generalize (P.2 : Int) = y at *
   exact ⟨Z.lin2 W2 (-W1) a1 a2 (by grind), Z.lin2 W2 (-W1) b1 b2 (by grind)⟩
 · rintro ⟨kx, ky⟩
   have nw := Z.not_mul n1 n2
   refine Prod.ext (Z.eq hP.1 hQ.1 ?_) (Z.eq hP.2.1 hQ.2.1 ?_)
   · exact Z.cancel (a := W1 * W2) (Z.lin3 1 (-W2) W1 kx a1 a2 (by grind)) nw
   · exact Z.cancel (a := W1 * W2) (Z.lin3 1 (-W2) W1 ky b1 b2 (by grind)) nw
def pZ (a b : Nat × Nat × Nat) : Nat := mulP a.2.2 b.2.2
def pE (d : Nat) (a b : Nat × Nat × Nat) : Nat := mulP d (mulP (mulP a.1 b.1) (mulP a.2.1 b.2.1))
def pF (d : Nat) (a b : Nat × Nat × Nat) : Nat := subP p25 (mulP (pZ a b) (pZ a b)) (pE d a b)
def pG (d : Nat) (a b : Nat × Nat × Nat) : Nat := addP (mulP (pZ a b) (pZ a b)) (pE d a b)
def pH (a b : Nat × Nat × Nat) : Nat := addP (mulP a.1 b.2.1) (mulP b.1 a.2.1)
def padd (d : Nat) (a b : Nat × Nat × Nat) : Nat × Nat × Nat :=
 (mulP (mulP (pZ a b) (pF d a b)) (pH a b), mulP (mulP (pZ a b) (pG d a b)) (addP (mulP a.2.1 b.2.1) (mulP a.1 b.1)), mulP (pF d a b) (pG d a b))
def RepN (P : Nat × Nat) (a : Nat × Nat × Nat) : Prop := RepP P a.1 a.2.1 a.2.2
theorem repN_add {P Q : Nat × Nat} (hP : onE P) (hQ : onE Q) {a b : Nat × Nat × Nat} (h1 : RepN P a) (h2 : RepN Q b) : RepN (addE P Q) (padd dP a b) := by
 have kz := Z_mulP a.2.2 b.2.2
 have ke := (Z_mulP dP (mulP (mulP a.1 b.1) (mulP a.2.1 b.2.1))).trans ((Z.rfl' (dP : Int)).mulc ((Z_mulP (mulP a.1 b.1) (mulP a.2.1 b.2.1)).trans ((Z_mulP a.1 b.1).mulc (Z_mulP a.2.1 b.2.1))))
 have kf := (Z_subP (mulP (pZ a b) (pZ a b)) (pE dP a b)).trans ((Z_mulP (pZ a b) (pZ a b)).subc (Z.rfl' _))
 have kg := (Z_addP (mulP (pZ a b) (pZ a b)) (pE dP a b)).trans ((Z_mulP (pZ a b) (pZ a b)).addc (Z.rfl' _))
 have kh := (Z_addP (mulP a.1 b.2.1) (mulP b.1 a.2.1)).trans ((Z_mulP a.1 b.2.1).addc (Z_mulP b.1 a.2.1))
 have kX := (Z_mulP (mulP (pZ a b) (pF dP a b)) (pH a b)).trans ((Z_mulP (pZ a b) (pF dP a b)).mulc (Z.rfl' _))
 have kY := (Z_mulP (mulP (pZ a b) (pG dP a b)) (addP (mulP a.2.1 b.2.1) (mulP a.1 b.1))).trans ((Z_mulP (pZ a b) (pG dP a b)).mulc ((Z_addP (mulP a.2.1 b.2.1) (mulP a.1 b.1)).trans ((Z_mulP a.2.1 b.2.1).addc (Z_mulP a.1 b.1))))
 exact rep_padd hP hQ d_c h1 h2 kz ke kf kg kh kX kY (Z_mulP (pF dP a b) (pG dP a b))
theorem padd_lt (d : Nat) (a b : Nat × Nat × Nat) : (padd d a b).1 < p25 ∧ (padd d a b).2.1 < p25 ∧ (padd d a b).2.2 < p25 := ⟨mulP_lt _ _, mulP_lt _ _, mulP_lt _ _⟩
def pmulS (d : Nat) (a : Nat × Nat × Nat) (K : Nat) : Nat → Nat × Nat × Nat
 | 0 => (0, 1, 1)
 | i + 1 => if K / 2 ^ (255 - i) % 2 = 1 then padd d (padd d (pmulS d a K i) (pmulS d a K i)) a else padd d (pmulS d a K i) (pmulS d a K i)
def pmul (d : Nat) (a : Nat × Nat × Nat) (K : Nat) : Nat × Nat × Nat := pmulS d a K 256
theorem repN_mulS {P : Nat × Nat} (hP : onE P) {a : Nat × Nat × Nat} (h : RepN P a) {K : Nat} (hK : K < 2 ^ 256) : ∀ i, i ≤ 256 → RepN (mulE (K / 2 ^ (256 - i)) P) (pmulS dP a K i)
 | 0, _ => by
   rw [Nat.sub_zero, Nat.div_eq_of_lt hK]
   exact repP_zero
 | i + 1, hi => by
   have ih := repN_mulS hP h hK i (by omega)
   have hn := mulE_on hP (K / 2 ^ (256 - i))
   have hd := repN_add hn hn ih ih
   rw [← mulE_add hP] at hd
   have e : K / 2 ^ (256 - (i + 1)) = K / 2 ^ (256 - i) + K / 2 ^ (256 - i) + K / 2 ^ (255 - i) % 2 := by
     rw [show 256 - i = (255 - i) + 1 by omega, Nat.pow_succ, ← Nat.div_div_eq_div_mul, show 256 - (i + 1) = 255 - i by omega]
     omega
   rw [e]
   unfold pmulS
   by_cases hb : K / 2 ^ (255 - i) % 2 = 1
   · rw [if_pos hb, hb]
     exact repN_add (mulE_on hP _) hP hd h
   · rw [if_neg hb, show K / 2 ^ (255 - i) % 2 = 0 by omega, Nat.add_zero]
     exact hd
theorem repN_mul {P : Nat × Nat} (hP : onE P) {a : Nat × Nat × Nat} (h : RepN P a) {K : Nat} (hK : K < 2 ^ 256) : RepN (mulE K P) (pmul dP a K) := by
 have h2 := repN_mulS hP h hK 256 (Nat.le_refl _)
 rwa [Nat.sub_self, Nat.pow_zero, Nat.div_one] at h2
theorem cross_Z (a b c d : Nat) : mulP a b = mulP c d ↔ Z ((a : Int) * b - (c : Int) * d) := by
 have h1 := Z_mulP a b
 have h2 := Z_mulP c d
 constructor
 · intro e
   rw [e] at h1
   exact Z.lin2 (-1) 1 h1 h2 (by grind)
 · intro h
   exact Z.eq (mulP_lt _ _) (mulP_lt _ _) (Z.lin3 1 (-1) 1 h1 h2 h (by grind))
theorem repN_same {P Q : Nat × Nat} (hP : onE P) (hQ : onE Q) {a b : Nat × Nat × Nat} (h1 : RepN P a) (h2 : RepN Q b) : P = Q ↔ mulP a.1 b.2.2 = mulP b.1 a.2.2 ∧ mulP a.2.1 b.2.2 = mulP b.2.1 a.2.2 := by
 rw [repP_same hP hQ h1 h2, cross_Z, cross_Z]
theorem repN_aff {P : Nat × Nat} (hP : onE P) {a : Nat × Nat × Nat} (ha : a.2.2 < p25) (h : RepN P a) : mulP a.1 (invP a.2.2) = P.1 ∧ mulP a.2.1 (invP a.2.2) = P.2 := by
 obtain ⟨n, k1, k2⟩ := h
 have hi := Z_invP ha n
 have m1 := Z_mulP a.1 (invP a.2.2)
 have m2 := Z_mulP a.2.1 (invP a.2.2)
 constructor
 · refine Z.eq (mulP_lt _ _) hP.1 ?_
   generalize ((mulP a.1 (invP a.2.2) : Nat) : Int) = q at *
   generalize ((invP a.2.2 : Nat) : Int) = i at *
   exact Z.lin3 1 i (P.1 : Int) m1 k1 hi (by grind)
 · refine Z.eq (mulP_lt _ _) hP.2.1 ?_
   generalize ((mulP a.2.1 (invP a.2.2) : Nat) : Int) = q at *
   generalize ((invP a.2.2 : Nat) : Int) = i at *
   exact Z.lin3 1 i (P.2 : Int) m2 k2 hi (by grind)
end Go.Proofs.YtonhpmaiagbheaaGreat
namespace Go.Proofs.YtonhpmaiagbheaaGreat
def wd (V j : Nat) : Nat := V / 18446744073709551616 ^ j % 18446744073709551616
def valW (f : Nat → Nat) : Nat → Nat
 | 0 => 0
 | j + 1 => valW f j + f j * 18446744073709551616 ^ j
theorem wd_lt (V j : Nat) : wd V j < 18446744073709551616 := Nat.mod_lt _ (by decide)
theorem wd_zero (V : Nat) : wd V 0 = V % 18446744073709551616 := by unfold wd; rw [Nat.pow_zero, Nat.div_one]
theorem powW_pos (j : Nat) : 0 < 18446744073709551616 ^ j := Nat.pow_pos (by decide)
theorem valW_congr {f g : Nat → Nat} : ∀ n, (∀ j, j < n → f j = g j) → valW f n = valW g n
 | 0, _ => rfl
 | n + 1, h => by rw [valW, valW, valW_congr n (fun j hj => h j (by omega)), h n (by omega)]
theorem valW_dig (V : Nat) : ∀ n, valW (wd V) n = V % 18446744073709551616 ^ n
 | 0 => by rw [Nat.pow_zero, Nat.mod_one]; rfl
 | n + 1 => by
   rw [valW, valW_dig V n, Nat.pow_succ, Nat.mod_mul]
   unfold wd
   rw [Nat.mul_comm]
theorem valW_all (V n : Nat) (h : V < 18446744073709551616 ^ n) : valW (wd V) n = V := by rw [valW_dig, Nat.mod_eq_of_lt h]
def addW (D P i : Nat) : Nat := (D % 18446744073709551616 ^ i + P % 18446744073709551616 ^ i) / 18446744073709551616 ^ i
theorem addW_zero (D P : Nat) : addW D P 0 = 0 := by simp [addW, Nat.mod_one]
theorem addW_le (D P i : Nat) : addW D P i ≤ 1 := by
 unfold addW
 have h1 := Nat.mod_lt D (powW_pos i)
 have h2 := Nat.mod_lt P (powW_pos i)
 have : (D % 18446744073709551616 ^ i + P % 18446744073709551616 ^ i) / 18446744073709551616 ^ i < 2 := by rw [Nat.div_lt_iff_lt_mul (powW_pos i)]; omega
 omega
theorem add_wd (D P i : Nat) : wd (D + P) i + 18446744073709551616 * addW D P (i + 1) = wd D i + wd P i + addW D P i := by
 have e1 : (D + P) / 18446744073709551616 ^ i = D / 18446744073709551616 ^ i + P / 18446744073709551616 ^ i + addW D P i := by
   have h1 := Nat.div_add_mod D (18446744073709551616 ^ i)
   have h2 := Nat.div_add_mod P (18446744073709551616 ^ i)
   have e : D + P = (D % 18446744073709551616 ^ i + P % 18446744073709551616 ^ i) + 18446744073709551616 ^ i * (D / 18446744073709551616 ^ i + P / 18446744073709551616 ^ i) := by rw [Nat.mul_add]; omega
   unfold addW
   rw [e, Nat.add_mul_div_left _ _ (powW_pos i)]
   omega
 have e2 : addW D P (i + 1) = (addW D P i + wd D i + wd P i) / 18446744073709551616 := by
   unfold addW wd
   rw [Nat.pow_succ, Nat.mod_mul, Nat.mod_mul, ← Nat.div_div_eq_div_mul]
   have e : D % 18446744073709551616 ^ i + 18446744073709551616 ^ i * (D / 18446744073709551616 ^ i % 18446744073709551616) + (P % 18446744073709551616 ^ i + 18446744073709551616 ^ i * (P / 18446744073709551616 ^ i % 18446744073709551616)) = (D % 18446744073709551616 ^ i + P % 18446744073709551616 ^ i) + 18446744073709551616 ^ i * (D / 18446744073709551616 ^ i % 18446744073709551616 + P / 18446744073709551616 ^ i % 18446744073709551616) := by rw [Nat.mul_add]; omega
   rw [e, Nat.add_mul_div_left _ _ (powW_pos i)]
   omega
 rw [e2]
 unfold wd
 rw [e1]
 omega
theorem valW_split (f : Nat → Nat) (n : Nat) : ∀ m, valW f (n + m) = valW f n + 18446744073709551616 ^ n * valW (fun j => f (n + j)) m
 | 0 => by simp [valW]
 | m + 1 => by
   show valW f (n + m) + f (n + m) * 18446744073709551616 ^ (n + m) = _
   rw [valW_split f n m, valW, Nat.mul_add, Nat.pow_add]
   have : f (n + m) * (18446744073709551616 ^ n * 18446744073709551616 ^ m) = 18446744073709551616 ^ n * (f (n + m) * 18446744073709551616 ^ m) := by ac_rfl
   omega
def mulW (A B i k : Nat) : Nat := valW (wd A) i * B + wd A i * 18446744073709551616 ^ i * valW (wd B) k
theorem mulW_step (A B i k : Nat) : mulW A B i (k + 1) = mulW A B i k + wd A i * wd B k * 18446744073709551616 ^ (i + k) := by
 unfold mulW
 rw [valW, Nat.mul_add, Nat.pow_add]
 have : wd A i * 18446744073709551616 ^ i * (wd B k * 18446744073709551616 ^ k) = wd A i * wd B k * (18446744073709551616 ^ i * 18446744073709551616 ^ k) := by ac_rfl
 omega
def B4 : Nat := 115792089237316195423570985008687907853269984665640564039457584007913129639936
theorem B4_eq : B4 = 18446744073709551616 ^ 4 := by decide +kernel
theorem B4_pos : 0 < B4 := by decide +kernel
theorem B4_top : B4 = 2 * top := by decide +kernel
theorem p25_B4 : p25 < B4 := by decide +kernel
theorem top_B4 : top < B4 := by decide +kernel
theorem top_W : top = 18446744073709551616 ^ 3 * 9223372036854775808 := by decide +kernel
theorem wd_all (V : Nat) (h : V < B4) : valW (wd V) 4 = V := valW_all V 4 (by rw [← B4_eq]; exact h)
theorem wd_sum (A C j : Nat) : (wd A j + wd C j + addW A C j) % 18446744073709551616 = wd (A + C) j ∧ (wd A j + wd C j + addW A C j) / 18446744073709551616 = addW A C (j + 1) := by
 have h := add_wd A C j
 have h1 := wd_lt (A + C) j
 omega
theorem addW_end (A C : Nat) (hA : A < B4) (hC : C < B4) : addW A C 4 = (A + C) / B4 := by
 unfold addW
 rw [← B4_eq, Nat.mod_eq_of_lt hA, Nat.mod_eq_of_lt hC]
theorem wd_sub (D A P j : Nat) (h : P = D + A) : (wd P j + 18446744073709551616 - wd A j - addW D A j) % 18446744073709551616 = wd D j ∧ (if wd P j < wd A j + addW D A j then 1 else 0) = addW D A (j + 1) := by
 subst h
 have h := add_wd D A j
 have h1 := wd_lt D j
 have h2 := wd_lt A j
 have h3 := wd_lt (D + A) j
 have h4 := addW_le D A j
 have h5 := addW_le D A (j + 1)
 generalize wd (D + A) j = p at *
 generalize wd D j = d at *
 generalize wd A j = a at *
 generalize addW D A j = b at *
 generalize addW D A (j + 1) = b' at *
 have h6 : b' = 0 ∨ b' = 1 := by omega
 rcases h6 with rfl | rfl
 · refine ⟨by omega, ?_⟩
   rw [if_neg (by omega)]
 · refine ⟨by omega, ?_⟩
   rw [if_pos (by omega)]
theorem wd_small (x j : Nat) (h : x < 18446744073709551616) : wd x j = if j = 0 then x else 0 := by
 unfold wd
 cases j with
 | zero => rw [Nat.pow_zero, Nat.div_one, if_pos rfl, Nat.mod_eq_of_lt h]
 | succ k =>
   rw [if_neg (by omega), Nat.div_eq_of_lt, Nat.zero_mod]
   exact Nat.lt_of_lt_of_le h (by
     have h := Nat.pow_le_pow_right (show 0 < 18446744073709551616 by decide) (show 1 ≤ k + 1 by omega)
     rwa [Nat.pow_one] at h)
theorem wd_mod_top (V j : Nat) (h : j < 4) : wd (V % top) j = if j = 3 then wd V 3 % 9223372036854775808 else wd V j := by
 unfold wd
 by_cases e : j = 3
 · subst e
   rw [if_pos rfl, top_W, Nat.mod_mul_right_div_self]
   omega
 · rw [if_neg e]
   have e2 : top = 18446744073709551616 ^ j * (18446744073709551616 * (18446744073709551616 ^ (2 - j) * 9223372036854775808)) := by
     rw [top_W, show 3 = j + 1 + (2 - j) by omega, Nat.pow_add, Nat.pow_succ]
     ac_rfl
   rw [e2, Nat.mod_mul_right_div_self, Nat.mod_mul_right_mod]
theorem wd_high (V : Nat) (h : V < B4) : wd V 3 / 9223372036854775808 = V / top := by
 have e : wd V 3 = V / 18446744073709551616 ^ 3 := by
   unfold wd
   refine Nat.mod_eq_of_lt ?_
   rw [Nat.div_lt_iff_lt_mul (powW_pos 3)]
   rw [B4_eq] at h
   exact h
 rw [e, Nat.div_div_eq_div_mul, ← top_W]
theorem over_eq (W t : Nat) : (W + t * B4) / top = 2 * t + W / top := by
 rw [B4_top, show W + t * (2 * top) = W + top * (2 * t) by rw [← Nat.mul_assoc, Nat.mul_comm t 2, Nat.mul_comm]]
 rw [Nat.add_mul_div_left _ _ top_pos, Nat.add_comm]
theorem low_eq (W t : Nat) : (W + t * B4) % top = W % top := by
 rw [B4_top, show W + t * (2 * top) = W + top * (2 * t) by rw [← Nat.mul_assoc, Nat.mul_comm t 2, Nat.mul_comm], Nat.add_mul_mod_self_left]
theorem over_lt (W : Nat) (h : W < B4) : W / top < 2 := by rw [Nat.div_lt_iff_lt_mul top_pos, ← B4_top]; exact h
theorem reduced_mod (W t : Nat) : (W % top + (2 * t + W / top) * 19) % p25 = (W + t * B4) % p25 := by
 have h := passV_mod (W + t * B4)
 unfold passV at h
 rw [over_eq, low_eq] at h
 rw [← h, Nat.mul_comm 19]
theorem reduced_lt (W t : Nat) (hW : W < B4) (ht : t < 2 ^ 58) : W % top + (2 * t + W / top) * 19 + 19 < top + p25 ∧ (2 * t + W / top) * 19 < 18446744073709551616 := by
 have h1 := over_lt W hW
 have h2 := Nat.mod_lt W top_pos
 have h3 : 18446744073709551616 + 19 < p25 := by decide +kernel
 generalize W / top = o at *
 generalize W % top = l at *
 generalize top = T at *
 generalize p25 = q at *
 omega
theorem cut_p (S : Nat) (h : S + 19 < top + p25) : (if S + 19 < top then S else (S + 19) % top) = S % p25 := by
 have e := top_p
 have hp := p25_pos
 have h0 : 19 < p25 := by decide +kernel
 generalize top = T at *
 subst e
 generalize p25 = q at *
 by_cases h1 : S + 19 < q + 19
 · rw [if_pos h1, Nat.mod_eq_of_lt (by omega)]
 · rw [if_neg h1, show S + 19 = (S - q) + (q + 19) by omega, Nat.add_mod_right, Nat.mod_eq_of_lt (show S - q < q + 19 by omega)]
   conv => rhs; rw [show S = (S - q) + q by omega, Nat.add_mod_right, Nat.mod_eq_of_lt (show S - q < q by omega)]
def setAt (f : Nat → Nat) (i x : Nat) : Nat → Nat := fun j => if j = i then x else f j
theorem valW_setAt (f : Nat → Nat) (i x : Nat) : ∀ n, i < n → valW (setAt f i x) n + f i * 18446744073709551616 ^ i = valW f n + x * 18446744073709551616 ^ i
 | 0, h => by omega
 | n + 1, h => by
   rw [valW, valW]
   by_cases e : i = n
   · subst e
     have : valW (setAt f i x) i = valW f i := valW_congr i fun j hj => by unfold setAt; rw [if_neg (by omega)]
     rw [this]
     unfold setAt
     rw [if_pos rfl]
     omega
   · have h2 := valW_setAt f i x n (by omega)
     have : setAt f i x n = f n := by unfold setAt; rw [if_neg (by omega)]
     rw [this]
     omega
theorem mulW_row (A C i : Nat) (hC : C < B4) : mulW A C i 4 = mulW A C (i + 1) 0 := by
 unfold mulW
 rw [wd_all _ hC]
 show _ = (valW (wd A) i + wd A i * 18446744073709551616 ^ i) * C + wd A (i + 1) * 18446744073709551616 ^ (i + 1) * 0
 rw [Nat.add_mul]
 omega
theorem mulW_zero (A C : Nat) : mulW A C 0 0 = 0 := by simp [mulW, valW]
theorem mulW_all (A C : Nat) (hA : A < B4) : mulW A C 4 0 = A * C := by
 unfold mulW
 rw [wd_all _ hA]
 show A * C + _ * 0 = _
 omega
theorem mulW_in (A C : Nat) (f : Nat → Nat) (i k c lo hi : Nat) (hik : i + k < 8) (h : valW f 8 + c * 18446744073709551616 ^ (i + k) = mulW A C i k) (hp : wd A i * wd C k + f (i + k) + c = lo + hi * 18446744073709551616) :
   valW (setAt f (i + k) lo) 8 + hi * 18446744073709551616 ^ (i + (k + 1)) = mulW A C i (k + 1) := by
 have h1 := valW_setAt f (i + k) lo 8 hik
 rw [mulW_step, ← h, show i + (k + 1) = i + k + 1 by omega, Nat.pow_succ]
 generalize 18446744073709551616 ^ (i + k) = Z at *
 have h2 : (wd A i * wd C k + f (i + k) + c) * Z = (lo + hi * 18446744073709551616) * Z := by rw [hp]
 rw [Nat.add_mul, Nat.add_mul, Nat.add_mul] at h2
 have h3 : hi * 18446744073709551616 * Z = hi * (Z * 18446744073709551616) := by ac_rfl
 omega
theorem mulW_out (A C : Nat) (f : Nat → Nat) (i c : Nat) (hi : i < 4) (hC : C < B4) (h : valW f 8 + c * 18446744073709551616 ^ (i + 4) = mulW A C i 4) (h0 : f (i + 4) = 0) : valW (setAt f (i + 4) c) 8 = mulW A C (i + 1) 0 := by
 have h1 := valW_setAt f (i + 4) c 8 (by omega)
 rw [h0, Nat.zero_mul, Nat.add_zero] at h1
 rw [h1, h, mulW_row A C i hC]
def foldW (f : Nat → Nat) (j : Nat) : Nat := valW f j + 38 * valW (fun i => f (i + 4)) j
theorem foldW_step (f : Nat → Nat) (g c lo hi j : Nat) (h : g + c * 18446744073709551616 ^ j = foldW f j) (hp : f (j + 4) * 38 + f j + c = lo + hi * 18446744073709551616) :
   g + lo * 18446744073709551616 ^ j + hi * 18446744073709551616 ^ (j + 1) = foldW f (j + 1) := by
 unfold foldW at *
 rw [valW, valW, Nat.pow_succ, Nat.mul_add]
 generalize 18446744073709551616 ^ j = Z at *
 have h2 : (f (j + 4) * 38 + f j + c) * Z = (lo + hi * 18446744073709551616) * Z := by rw [hp]
 rw [Nat.add_mul, Nat.add_mul, Nat.add_mul] at h2
 have h3 : hi * 18446744073709551616 * Z = hi * (Z * 18446744073709551616) := by ac_rfl
 have h4 : f (j + 4) * 38 * Z = 38 * (f (j + 4) * Z) := by ac_rfl
 omega
theorem foldW_mod (f : Nat → Nat) : foldW f 4 % p25 = valW f 8 % p25 := by
 unfold foldW
 rw [show (8 : Nat) = 4 + 4 from rfl, valW_split f 4 4]
 have e : 18446744073709551616 ^ 4 = 38 + p25 * 2 := by decide +kernel
 have e2 : (fun j => f (4 + j)) = fun i => f (i + 4) := funext fun j => by rw [Nat.add_comm]
 rw [e, e2, Nat.add_mul, Nat.mul_assoc]
 generalize valW (fun i => f (i + 4)) 4 = W
 rw [← Nat.add_assoc, Nat.add_mul_mod_self_left]
end Go.Proofs.YtonhpmaiagbheaaGreat
namespace Go.Proofs.YtonhpmaiagbheaaGreat
open Go.RowKit Go.Deep
def ewF (V : Nat) : Nat → Value := u64f (wd V)
theorem arrE : IsArr Tryz.prog 51 4 := ⟨by kernel_rfl, by kernel_rfl⟩
theorem arrW : IsArr Tryz.prog 46 4 := ⟨by kernel_rfl, by kernel_rfl⟩
theorem arrW8 : IsArr Tryz.prog 83 8 := ⟨by kernel_rfl, by kernel_rfl⟩
theorem zeroE : (Tryz.prog.info? 51).map (fun i => i.zero) = some (some (.agg (arrOf 4 (u64f fun _ => 0)))) := by kernel_rfl
theorem zeroW : (Tryz.prog.info? 46).map (fun i => i.zero) = some (some (.agg (arrOf 4 (u64f fun _ => 0)))) := by kernel_rfl
theorem zeroW8 : (Tryz.prog.info? 83).map (fun i => i.zero) = some (some (.agg (arrOf 8 (u64f fun _ => 0)))) := by kernel_rfl
theorem rowsW3 (w : World) (F G : Nat → Value) (t : TypeId) : ∃ w3, w3 = ((w.alloc (.cells (arrOf 4 F) t)).alloc (.cells (arrOf 4 G) t)).alloc (.cells (arrOf 4 (u64f fun _ => 0)) t) ∧
   w3.rowIs w.heap.size t 4 F ∧ w3.rowIs (w.heap.size + 1) t 4 G ∧ w3.rowIs (w.heap.size + 1 + 1) t 4 (u64f fun _ => 0) ∧ Below w.heap.size w w3 ∧ w3.heap.size = w.heap.size + 1 + 1 + 1 := by
 refine ⟨_, rfl, ((rowIs_arr w 4 F t).alloc _).alloc _, ?_, ?_, (((Below.refl _ _).alloc (Nat.le_refl _) _).alloc (by simp) _).alloc (by simp; omega) _, by simp only [World.size_alloc]⟩
 · have h := (rowIs_arr (w.alloc (.cells (arrOf 4 F) t)) 4 G t).alloc (.cells (arrOf 4 (u64f fun _ => 0)) t)
   rwa [World.size_alloc] at h
 · have h := rowIs_arr ((w.alloc (.cells (arrOf 4 F) t)).alloc (.cells (arrOf 4 G) t)) 4 (u64f fun _ => 0) t
   rwa [World.size_alloc, World.size_alloc] at h
theorem rowsW2 (w : World) (F : Nat → Value) (t t' : TypeId) : ∃ w3, w3 = (w.alloc (.cells (arrOf 4 F) t)).alloc (.cells (arrOf 4 (u64f fun _ => 0)) t') ∧
   w3.rowIs w.heap.size t 4 F ∧ w3.rowIs (w.heap.size + 1) t' 4 (u64f fun _ => 0) ∧ Below w.heap.size w w3 ∧ w3.heap.size = w.heap.size + 1 + 1 := by
 refine ⟨_, rfl, (rowIs_arr w 4 F t).alloc _, ?_, ((Below.refl _ _).alloc (Nat.le_refl _) _).alloc (by simp) _, by simp only [World.size_alloc]⟩
 have h := rowIs_arr (w.alloc (.cells (arrOf 4 F) t)) 4 (u64f fun _ => 0) t'
 rwa [World.size_alloc] at h
theorem agg_putW (F G : Nat → Value) : arrOf 4 (fun i => putN F 0 4 G (0 + i)) = arrOf 4 G := arrOf_congr fun i hi => by
 unfold putN
 rw [if_pos (by omega)]
 simp only [Nat.zero_add, Nat.sub_zero]
theorem add64_run (x y c : Nat) (hc : c ≤ 1) (w : World) : (callFunc 65 #[.int .u64 (x : Int), .int .u64 (y : Int), .int .u64 (c : Int)]).run Tryz.prog w =
   .ok (.value (.tuple #[.int .u64 (((x + y + c) % 18446744073709551616 : Nat) : Int), .int .u64 (((x + y + c) / 18446744073709551616 : Nat) : Int)])) w := by
 rw [run_callFunc_extern Tryz.func65 (by kernel_rfl) (by kernel_rfl) (by kernel_rfl) (e := add64Entry) (by kernel_rfl), run_add64 x y c (by omega) (by omega) (by omega) (by omega)]
 simp only [Result.andThen]
 congr 5 <;> omega
theorem sub64_run (x y b : Nat) (hb : b ≤ 1) (w : World) : (callFunc 121 #[.int .u64 (x : Int), .int .u64 (y : Int), .int .u64 (b : Int)]).run Tryz.prog w =
   .ok (.value (.tuple #[.int .u64 (((x + 18446744073709551616 - y - b) % 18446744073709551616 : Nat) : Int), .int .u64 ((if x < y + b then 1 else 0 : Nat) : Int)])) w := by
 rw [run_callFunc_extern Tryz.func121 (by kernel_rfl) (by kernel_rfl) (by kernel_rfl) (e := sub64Entry) (by kernel_rfl), run_sub64 x y b hb]
 rfl
theorem exec_entry {P : Program} (ρ : Operand → Value) (f : Nat) (xs : Array Operand) (ts : Array TypeId) (t : TypeId) (args : Array Value) (v : Value) (w : World) (hρ : ρ (.func f) = .func (.func f) #[] #[]) (hargs : xs.map ρ = args) (h : (callFunc f args).run P w = .ok (.value v) w) :
   (execOp ρ (mkOp (.call { callee := .value (.func f), args := xs, argTypes := ts }) t)).run P w = .ok (.value v) w := by
 simp [execOp, mkOp, resolve, hρ, Deferred.ofValue, invoke, hargs, h]
theorem wrap_nat (n : Nat) (h : n < 18446744073709551616) : IntKind.u64.wrap (n : Int) = (n : Int) := IntWalk.u64_in _ ⟨by omega, by omega⟩
set_option maxHeartbeats 1000000 in
theorem mul64_any (x y : Nat) (hx : x < 18446744073709551616) (hy : y < 18446744073709551616) (w : World) :
   Calls Tryz.prog 114 #[.int .u64 (x : Int), .int .u64 (y : Int)] w fun e w' => e = .returned (.tuple #[.int .u64 ((x * y / 18446744073709551616 : Nat) : Int), .int .u64 ((x * y % 18446744073709551616 : Nat) : Int)]) ∧ w' = w := by
 obtain ⟨b1, b2, b3, hhi⟩ := Lib.mul64_hi x y hx hy
 have k1 := Lib.half_mul_le (a := x / 4294967296) (b := y / 4294967296) (by omega) (by omega)
 have k2 := Lib.half_mul_le (a := x / 4294967296) (b := y % 4294967296) (by omega) (by omega)
 have k3 := Lib.half_mul_le (a := x % 4294967296) (b := y / 4294967296) (by omega) (by omega)
 have mx := mask64 x 32 hx (by decide) 4294967295 rfl
 have my := mask64 y 32 hy (by decide) 4294967295 rfl
 rw [show (2 : Nat) ^ 32 = 4294967296 from rfl] at mx my
 have dx : (x : Int) / 4294967296 = ((x / 4294967296 : Nat) : Int) := by omega
 have dy : (y : Int) / 4294967296 = ((y / 4294967296 : Nat) : Int) := by omega
 have hlo : IntKind.u64.wrap ((x : Int) * (y : Int)) = ((x * y % 18446744073709551616 : Nat) : Int) := by
   rw [← Int.natCast_mul, IntKind.wrap_u64]
   omega
 rw [← hhi]
 clear hhi hx hy
 generalize x * y % 18446744073709551616 = low at *
 generalize x % 4294967296 = x0 at *
 generalize x / 4294967296 = x1 at *
 generalize y % 4294967296 = y0 at *
 generalize y / 4294967296 = y1 at *
 have p1 : IntKind.u64.wrap ((x0 : Int) * (y0 : Int)) = ((x0 * y0 : Nat) : Int) := by rw [← Int.natCast_mul, wrap_nat _ b1]
 have p2 : IntKind.u64.wrap ((x1 : Int) * (y0 : Int)) = ((x1 * y0 : Nat) : Int) := by rw [← Int.natCast_mul, wrap_nat _ (by omega)]
 have p3 : IntKind.u64.wrap ((x0 : Int) * (y1 : Int)) = ((x0 * y1 : Nat) : Int) := by rw [← Int.natCast_mul, wrap_nat _ (by omega)]
 have p4 : IntKind.u64.wrap ((x1 : Int) * (y1 : Int)) = ((x1 * y1 : Nat) : Int) := by rw [← Int.natCast_mul, wrap_nat _ (by omega)]
 generalize x0 * y0 = q1 at *
 generalize x1 * y0 = q2 at *
 generalize x0 * y1 = q3 at *
 generalize x1 * y1 = q4 at *
 have d1 : (q1 : Int) / 4294967296 = ((q1 / 4294967296 : Nat) : Int) := by omega
 generalize q1 / 4294967296 = v1 at *
 have s1 : IntKind.u64.wrap ((q2 : Int) + (v1 : Int)) = ((q2 + v1 : Nat) : Int) := by rw [← Int.natCast_add, wrap_nat _ b2]
 have m1 := mask64 (q2 + v1) 32 b2 (by decide) 4294967295 rfl
 rw [show (2 : Nat) ^ 32 = 4294967296 from rfl] at m1
 generalize q2 + v1 = t at *
 have d2 : (t : Int) / 4294967296 = ((t / 4294967296 : Nat) : Int) := by omega
 have s2 : IntKind.u64.wrap (((t % 4294967296 : Nat) : Int) + (q3 : Int)) = ((t % 4294967296 + q3 : Nat) : Int) := by rw [← Int.natCast_add, wrap_nat _ b3]
 generalize hw1 : t % 4294967296 + q3 = w1 at *
 generalize ht0 : t % 4294967296 = t0 at *
 have d3 : (w1 : Int) / 4294967296 = ((w1 / 4294967296 : Nat) : Int) := by omega
 have s3 : IntKind.u64.wrap ((q4 : Int) + ((t / 4294967296 : Nat) : Int)) = ((q4 + t / 4294967296 : Nat) : Int) := by rw [← Int.natCast_add, wrap_nat _ (by omega)]
 have s4 : IntKind.u64.wrap (((q4 + t / 4294967296 : Nat) : Int) + ((w1 / 4294967296 : Nat) : Int)) = ((q4 + t / 4294967296 + w1 / 4294967296 : Nat) : Int) := by rw [← Int.natCast_add, wrap_nat _ (by omega)]
 generalize q4 + t / 4294967296 + w1 / 4294967296 = h2 at *
 generalize q4 + t / 4294967296 = h1 at *
 generalize t / 4294967296 = t1 at *
 generalize w1 / 4294967296 = v3 at *
 clear b1 b2 b3 k1 k2 k3 hw1 ht0
 go_enter Tryz.func114, Tryz.ntmps114
 go_wp2
 go_ret2
 exact ⟨rfl, rfl⟩
theorem product_le (x y a b : Nat) (hx : x < 18446744073709551616) (hy : y < 18446744073709551616) (ha : a < 18446744073709551616) (hb : b < 18446744073709551616) : x * y + a + b < 18446744073709551616 * 18446744073709551616 := by
 have h : x * y ≤ 18446744073709551615 * 18446744073709551615 := Nat.mul_le_mul (by omega) (by omega)
 omega
set_option maxHeartbeats 1000000 in
theorem product_any (x y a b : Nat) (hx : x < 18446744073709551616) (hy : y < 18446744073709551616) (ha : a < 18446744073709551616) (hb : b < 18446744073709551616) (w : World) :
   Calls Tryz.prog 110 #[.int .u64 (x : Int), .int .u64 (y : Int), .int .u64 (a : Int), .int .u64 (b : Int)] w fun e w' => e = .returned (.tuple #[.int .u64 (((x * y + a + b) % 18446744073709551616 : Nat) : Int), .int .u64 (((x * y + a + b) / 18446744073709551616 : Nat) : Int)]) ∧ w' = w := by
 have hall := product_le x y a b hx hy ha hb
 have hm := mul64_any x y hx hy
 generalize x * y = z at *
 obtain ⟨hi, hhi⟩ : ∃ hi, hi = z / 18446744073709551616 := ⟨_, rfl⟩
 obtain ⟨lo, hlo⟩ : ∃ lo, lo = z % 18446744073709551616 := ⟨_, rfl⟩
 rw [← hhi, ← hlo] at hm
 obtain ⟨l1, hl1⟩ : ∃ l1, l1 = (lo + a) % 18446744073709551616 := ⟨_, rfl⟩
 obtain ⟨c1, hc1⟩ : ∃ c1, c1 = (lo + a) / 18446744073709551616 := ⟨_, rfl⟩
 obtain ⟨l2, hl2⟩ : ∃ l2, l2 = (l1 + b) % 18446744073709551616 := ⟨_, rfl⟩
 obtain ⟨c2, hc2⟩ : ∃ c2, c2 = (l1 + b) / 18446744073709551616 := ⟨_, rfl⟩
 have r1 := add64_run lo a 0 (by omega)
 have r2 := add64_run l1 b 0 (by omega)
 rw [Nat.add_zero, ← hl1, ← hc1, show ((0 : Nat) : Int) = 0 from rfl] at r1
 rw [Nat.add_zero, ← hl2, ← hc2, show ((0 : Nat) : Int) = 0 from rfl] at r2
 have w1 : IntKind.u64.wrap ((hi : Int) + (c1 : Int)) = ((hi + c1 : Nat) : Int) := by rw [IntWalk.u64_in _ ⟨by omega, by omega⟩]; omega
 have w2 : IntKind.u64.wrap (((hi + c1 : Nat) : Int) + (c2 : Int)) = ((hi + c1 + c2 : Nat) : Int) := by rw [IntWalk.u64_in _ ⟨by omega, by omega⟩]; omega
 have e1 : (z + a + b) % 18446744073709551616 = l2 := by omega
 have e2 : (z + a + b) / 18446744073709551616 = hi + c1 + c2 := by omega
 rw [e1, e2]
 generalize hi + c1 + c2 = h2 at *
 generalize hi + c1 = h1 at *
 clear e1 e2 hhi hlo hl1 hc1 hl2 hc2 hall hx hy ha hb
 go_enter Tryz.func110, Tryz.ntmps110
 go_wp2_with (first
   | (go_at_call 114; refine (hm _).mono ?_; rintro e w' ⟨rfl, rfl⟩)
   | simp only [r1]
   | simp only [r2])
 go_ret2
 exact ⟨rfl, rfl⟩
set_option maxHeartbeats 2000000 in
theorem wsum_any (A C : Nat) (w : World) (hA : A < B4) (hC : C < B4) : Calls Tryz.prog 124 #[.agg (arrOf 4 (ewF A)), .agg (arrOf 4 (ewF C))] w fun e w' => e = .returned (.tuple #[.agg (arrOf 4 (ewF (A + C))), .int .u64 (((A + C) / B4 : Nat) : Int)]) ∧ Below w.heap.size w w' := by
 obtain ⟨w3, hw3, hrA, hrC, hrR, hbel, hsz⟩ := rowsW3 w (ewF A) (ewF C) 46
 have HEND := Lib.hid (addW_end A C hA hC)
 clear hA hC
 go_enter Tryz.func124, Tryz.ntmps124
 go_wp2_with (refine wpList_alloc_arr rfl 46 rfl (arrOf 4 (u64f fun _ => 0)) zeroW ?_)
 rw [← hw3]
 clear hw3
 generalize hg0 : w.heap.size = g0 at *
 generalize hg2 : g0 + 1 + 1 = g2 at *
 generalize hg1 : g0 + 1 = g1 at *
 have n02 : g0 ≠ g2 := by omega
 have n12 : g1 ≠ g2 := by omega
 have l2 : g0 ≤ g2 := by omega
 have HG := Lib.hid hg0
 clear hg1 hg2 hg0 hsz
 go_loopw [5, 7] (fun cv i wr => ∃ j : Nat, j ≤ 4 ∧ i = .int .i64 j ∧ cv = .int .u64 ((addW A C j : Nat) : Int) ∧ wr.rowIs g0 46 4 (ewF A) ∧ wr.rowIs g1 46 4 (ewF C) ∧ wr.rowIs g2 46 4 (u64f fun i => if i < j then wd (A + C) i else 0) ∧ Below g0 w wr) (fun _ i _ => 4 - (intOf i).toNat)
 case atStart => exact ⟨0, Nat.zero_le _, rfl, by rw [addW_zero]; rfl, hrA, hrC, hrR.congr fun i _ => rfl, hbel⟩
 case round =>
   clear hrA hrC hrR hbel
   obtain ⟨j, hj, rfl, rfl, hA, hC, hR, hbel⟩ := hrel
   by_cases hlt : j < 4
   · have HXA : Hid (∀ w' : World, w'.rowIs g0 46 4 (ewF A) → w'.cell? ⟨g0, j, none⟩ = some (.int .u64 ((wd A j : Nat) : Int))) := Lib.hid fun w' h => h.cell hlt
     have HYC : Hid (∀ w' : World, w'.rowIs g1 46 4 (ewF C) → w'.cell? ⟨g1, j, none⟩ = some (.int .u64 ((wd C j : Nat) : Int))) := Lib.hid fun w' h => h.cell hlt
     have hstep := wd_sum A C j
     have hfr := hR.drew.frozen j
     have hcR := hR.drew.cell (i := j) hlt
     have hjI : 0 ≤ (j : Int) ∧ (j : Int) < 4 := by omega
     have hset : (wr.drew.setCell ⟨g2, j, none⟩ (.int .u64 ((wd (A + C) j : Nat) : Int))).rowIs g2 46 4 (u64f fun i => if i < j + 1 then wd (A + C) i else 0) := row_set_drew hR _ _ _ (fun i hi => by
       by_cases e : i = j
       · subst e; rw [if_pos (Nat.lt_succ_self i), if_pos rfl]
       · rw [if_neg e]
         by_cases h2 : i < j
         · rw [if_pos h2, if_pos (by omega)]
         · rw [if_neg h2, if_neg (by omega)])
     have HSET := Lib.hid hset
     have hrun := add64_run (wd A j) (wd C j) (addW A C j) (addW_le A C j)
     rw [hstep.1, hstep.2] at hrun
     have HRUN := Lib.hid hrun
     generalize wd (A + C) j = s at *
     generalize hc2 : addW A C (j + 1) = c2 at *
     have HC2 := Lib.hid hc2
     generalize addW A C j = c at *
     generalize wd A j = x at *
     generalize wd C j = y at *
     clear hset hstep hrun hlt hc2
     replace hA := hA.drew
     replace hC := hC.drew
     go_wp2
     refine wp_region_lins [(0, some [13]), (1, some [13]), (2, some [13]), (3, some [8, 13]), (4, some [13]), (5, some [13]), (6, some [8, 13]), (7, some [8, 13]), (8, none), (9, some [13]), (10, some [13]), (11, some []), (12, some [13]), (13, none), (14, some [])] (fun c w' => c = 8 → w'.rowIs g0 46 4 (ewF A) ∧ w'.rowIs g1 46 4 (ewF C)) (by kernel_rfl) (by kernel_rfl) (by decide) (by kernel_rfl) (fun d _ _ _ _ h => by cases d <;> exact h) (fun c hc _ => ⟨hA, hC⟩) ?_
     refine lins_read 11 (Op.move (Operand.tmp 6)) 3 _ rfl rfl rfl rfl rfl (fun w0 hw0 => by unfold mkOp; go_simp; all_goals (with_reducible rfl)) ?_
     simp only [Act.put, List.setIfInBounds_toArray, List.set_cons_zero, List.set_cons_succ]
     refine lins_read 12 (Op.move (Operand.tmp 6)) 3 _ rfl rfl rfl rfl rfl (fun w0 hw0 => by unfold mkOp; go_simp; all_goals (with_reducible rfl)) ?_
     simp only [Act.put, List.setIfInBounds_toArray, List.set_cons_zero, List.set_cons_succ]
     refine lins_read 13 (Op.indexAddr 46 (Operand.tmp 2) (Operand.tmp 12)) 0 _ rfl rfl rfl rfl rfl (fun w0 hw0 => by unfold mkOp; go_simp; all_goals (with_reducible rfl)) ?_
     simp only [Act.put, List.setIfInBounds_toArray, List.set_cons_zero, List.set_cons_succ]
     refine lins_read 14 (Op.load 45 (Operand.tmp 13)) 45 (.int .u64 (x : Int)) rfl rfl rfl rfl rfl (fun w0 hw0 => by have hc0 := HXA.out w0 (hw0 8 (by simp) rfl).1; unfold mkOp; go_simp; all_goals (with_reducible rfl)) ?_
     simp only [Act.put, List.setIfInBounds_toArray, List.set_cons_zero, List.set_cons_succ]
     refine lins_read 15 (Op.move (Operand.tmp 6)) 3 _ rfl rfl rfl rfl rfl (fun w0 hw0 => by unfold mkOp; go_simp; all_goals (with_reducible rfl)) ?_
     simp only [Act.put, List.setIfInBounds_toArray, List.set_cons_zero, List.set_cons_succ]
     refine lins_read 16 (Op.indexAddr 46 (Operand.tmp 3) (Operand.tmp 15)) 0 _ rfl rfl rfl rfl rfl (fun w0 hw0 => by unfold mkOp; go_simp; all_goals (with_reducible rfl)) ?_
     simp only [Act.put, List.setIfInBounds_toArray, List.set_cons_zero, List.set_cons_succ]
     refine lins_read 17 (Op.load 45 (Operand.tmp 16)) 45 (.int .u64 (y : Int)) rfl rfl rfl rfl rfl (fun w0 hw0 => by have hc0 := HYC.out w0 (hw0 8 (by simp) rfl).2; unfold mkOp; go_simp; all_goals (with_reducible rfl)) ?_
     simp only [Act.put, List.setIfInBounds_toArray, List.set_cons_zero, List.set_cons_succ]
     refine lins_read 18 (Op.move (Operand.tmp 5)) 45 _ rfl rfl rfl rfl rfl (fun w0 hw0 => by unfold mkOp; go_simp; all_goals (with_reducible rfl)) ?_
     simp only [Act.put, List.setIfInBounds_toArray, List.set_cons_zero, List.set_cons_succ]
     refine lins_made (some 19) (Op.call { callee := Callee.value (Operand.func 65), args := #[Operand.tmp 14, Operand.tmp 17, Operand.tmp 18], argTypes := #[45, 45, 45] }) 98 (.tuple #[.int .u64 (s : Int), .int .u64 (c2 : Int)]) (_) rfl rfl rfl rfl rfl (by exact exec_entry _ _ _ _ _ _ _ _ rfl (by go_simp) (HRUN.out _)) (fun _ _ => True) (fun c hc => ⟨trivial, fun w7 _ h => by subst h; simp [writers] at hc⟩) ?_
     simp only [Act.put, List.setIfInBounds_toArray, List.set_cons_zero, List.set_cons_succ]
     refine lins_read 10 (Op.move (Operand.tmp 19)) 98 _ rfl rfl rfl rfl rfl (fun w0 hw0 => by unfold mkOp; go_simp; all_goals (with_reducible rfl)) ?_
     simp only [Act.put, List.setIfInBounds_toArray, List.set_cons_zero, List.set_cons_succ]
     refine lins_read 20 (Op.extract (Operand.tmp 10) 0) 45 _ rfl rfl rfl rfl rfl (fun w0 hw0 => by unfold mkOp; go_simp; all_goals (with_reducible rfl)) ?_
     simp only [Act.put, List.setIfInBounds_toArray, List.set_cons_zero, List.set_cons_succ]
     refine lins_read 21 (Op.extract (Operand.tmp 10) 1) 45 _ rfl rfl rfl rfl rfl (fun w0 hw0 => by unfold mkOp; go_simp; all_goals (with_reducible rfl)) ?_
     simp only [Act.put, List.setIfInBounds_toArray, List.set_cons_zero, List.set_cons_succ]
     refine lins_read 22 (Op.indexAddr 46 (Operand.tmp 4) (Operand.tmp 11)) 0 _ rfl rfl rfl rfl rfl (fun w0 hw0 => by unfold mkOp; go_simp; all_goals (with_reducible rfl)) ?_
     simp only [Act.put, List.setIfInBounds_toArray, List.set_cons_zero, List.set_cons_succ]
     refine lins_store (Op.store 45 (Operand.tmp 22) (Operand.tmp 20)) 0 (_) rfl rfl rfl rfl rfl (by unfold mkOp; go_simp; all_goals (with_reducible rfl)) (fun _ _ => True) (fun c hc => by cases hc) ?_
     try simp only [Act.put, List.setIfInBounds_toArray, List.set_cons_zero, List.set_cons_succ]
     refine lins_read 5 (Op.assign (Operand.tmp 21)) 45 _ rfl rfl rfl rfl rfl (fun w0 hw0 => by unfold mkOp; go_simp; all_goals (with_reducible rfl)) ?_
     simp only [Act.put, List.setIfInBounds_toArray, List.set_cons_zero, List.set_cons_succ]
     refine lins_end ?_
     go_wp2
     go_roundw
     case rel => exact ⟨j + 1, by omega, by go_num, by rw [HC2.out], hA.setOther n02 _, hC.setOther n12 _, HSET.out, hbel.drew.setCell (show g0 ≤ (⟨g2, j, none⟩ : Addr).block from l2) _⟩
     case measure => simp [intOf]; omega
   · obtain rfl : j = 4 := by omega
     rw [HEND.out]
     have hR' : wr.rowIs g2 46 4 (ewF (A + C)) := hR.congr fun i hi => by dsimp only [ewF, u64f]; rw [if_pos hi]
     have hgs : g0 ≤ wr.heap.size := by rw [← HG.out]; exact hbel.size
     clear hR
     go_wp2_with (first
       | (refine wpList_load_arr rfl 46 (.tmp 4) rfl 4 arrW hR' rfl (by omega) ?_; simp only [Nat.zero_add])
       | (refine wpList_store_arr rfl 46 (.tmp 4) (.tmp 24) rfl 4 arrW hR' rfl rfl (by omega) (fun _ _ => rfl) ?_; intro w6 hr6 hg6 hs6))
     refine ret_cell_arr_tmp rfl arrW hr6 rfl rfl (by omega) rfl ⟨?_, by rw [HG.out]; exact hbel.grown hg6 hgs (by intro k hk; cases hk; exact l2)⟩
     rw [agg_putW]
     rfl
theorem andnot_top (x : Nat) (hx : x < 18446744073709551616) : bits .andNot .u64 (x : Int) 9223372036854775808 = ((x % 9223372036854775808 : Nat) : Int) := by
 have h := bits_go64 .andNot (fun a b => a &&& ~~~b) (BitVec.ofNat 64 x) (BitVec.ofNat 64 9223372036854775808) rfl
 rw [ofNat64 x hx, ofNat64 _ (by decide)] at h
 refine h.trans ?_
 rw [BitVec.toNat_and, BitVec.toNat_ofNat, Nat.mod_eq_of_lt (show x < 2 ^ 64 by omega), show (~~~(BitVec.ofNat 64 9223372036854775808)).toNat = 2 ^ 63 - 1 by decide, Nat.and_two_pow_sub_one_eq_mod]
theorem and_top (x : Nat) (hx : x < 18446744073709551616) : bits .and .u64 (x : Int) 9223372036854775808 = ((x / 9223372036854775808 * 9223372036854775808 : Nat) : Int) := by
 have h := and64 (BitVec.ofNat 64 x) (BitVec.ofNat 64 9223372036854775808)
 rw [ofNat64 x hx, ofNat64 _ (by decide)] at h
 refine h.trans ?_
 rw [BitVec.toNat_and, BitVec.toNat_ofNat, BitVec.toNat_ofNat, Nat.mod_eq_of_lt (show x < 2 ^ 64 by omega), show 9223372036854775808 % 2 ^ 64 = 2 ^ 63 by decide]
 refine congrArg Int.ofNat (Nat.eq_of_testBit_eq fun i => ?_)
 rw [Nat.testBit_and, Nat.testBit_two_pow]
 by_cases e : x < 9223372036854775808
 · rw [Nat.div_eq_of_lt e, Nat.zero_mul, Nat.zero_testBit]
   by_cases h63 : 63 = i
   · subst h63
     rw [Nat.testBit_lt_two_pow (show x < 2 ^ 63 by omega)]
     rfl
   · rw [decide_eq_false h63, Bool.and_false]
 · rw [show x / 9223372036854775808 = 1 by omega, show 1 * 9223372036854775808 = 2 ^ 63 by decide, Nat.testBit_two_pow]
   by_cases h63 : 63 = i
   · subst h63
     rw [Nat.testBit_eq_decide_div_mod_eq, show (2 : Nat) ^ 63 = 9223372036854775808 by decide, show x / 9223372036854775808 = 1 by omega]
     rfl
   · rw [decide_eq_false h63, Bool.and_false]
theorem or_add64 (k a b : Nat) (hb : b < 2 ^ k) (h : 2 ^ k * a + b < 18446744073709551616) : bits .or .u64 ((2 ^ k * a : Nat) : Int) (b : Int) = ((2 ^ k * a + b : Nat) : Int) := by
 have g := or64 (BitVec.ofNat 64 (2 ^ k * a)) (BitVec.ofNat 64 b)
 rw [ofNat64 _ (by omega), ofNat64 b (by omega)] at g
 refine g.trans ?_
 rw [BitVec.toNat_or, BitVec.toNat_ofNat, BitVec.toNat_ofNat, Nat.mod_eq_of_lt (show 2 ^ k * a < 2 ^ 64 by omega), Nat.mod_eq_of_lt (show b < 2 ^ 64 by omega), ← Nat.two_pow_add_eq_or_of_lt hb]
theorem or_add64' (k a b : Nat) (hb : b < 2 ^ k) (h : 2 ^ k * a + b < 18446744073709551616) : bits .or .u64 (b : Int) ((2 ^ k * a : Nat) : Int) = ((2 ^ k * a + b : Nat) : Int) := by
 have g := or64 (BitVec.ofNat 64 b) (BitVec.ofNat 64 (2 ^ k * a))
 rw [ofNat64 _ (by omega), ofNat64 (2 ^ k * a) (by omega)] at g
 refine g.trans ?_
 rw [BitVec.toNat_or, BitVec.toNat_ofNat, BitVec.toNat_ofNat, Nat.mod_eq_of_lt (show 2 ^ k * a < 2 ^ 64 by omega), Nat.mod_eq_of_lt (show b < 2 ^ 64 by omega), Nat.or_comm, ← Nat.two_pow_add_eq_or_of_lt hb]
theorem cells4_small (x : Nat) (h : x < 18446744073709551616) : (#[.int .u64 (x : Int), .int .u64 0, .int .u64 0, .int .u64 0] : Array Value) = arrOf 4 (ewF x) := by
 have e : arrOf 4 (ewF x) = arrOf 4 (fun i => .int .u64 ((if i = 0 then x else 0 : Nat) : Int)) := arrOf_congr fun i _ => by
   unfold ewF u64f
   rw [wd_small x i h]
 rw [e]
 rfl
theorem builtE (F : Nat → Value) : Tryz.prog.built 51 [(0, .agg (arrOf 4 F))] = some (arrOf 4 F) := by kernel_rfl
theorem wpList_buildE {ops : Array Oper} {rest : List Oper} {o : Oper} {a : Act} {w : World} {Q : Exit → Act → World → Prop} {F : Nat → Value} (hgd : o.guard = none) (x : Operand) (ho : o.op = .build 51 #[(0, x)]) (hx : a.eval x = .agg (arrOf 4 F))
   (h : wpList Tryz.prog ops Q rest (a.put o.dst (.agg (arrOf 4 F))) w) : wpList Tryz.prog ops Q (o :: rest) a w :=
 wpList_build_arr hgd 51 #[(0, x)] ho (arrOf 4 F) (by simp only [List.map_toArray, List.map_cons, List.map_nil, hx]; exact builtE F) h
theorem row_top {w : World} {b : Nat} {t : TypeId} {W : Nat} (h : w.rowIs b t 4 (ewF W)) : (w.setCell ⟨b, 3, none⟩ (.int .u64 ((wd W 3 % 9223372036854775808 : Nat) : Int))).rowIs b t 4 (ewF (W % top)) := row_set h 3 _ _ (fun i hi => wd_mod_top W i hi)
set_option maxHeartbeats 2000000 in
theorem reduced_any (W t : Nat) (w : World) (hW : W < B4) (ht : t < 2 ^ 58) : Calls Tryz.prog 108 #[.agg (arrOf 4 (ewF W)), .int .u64 (t : Int)] w fun e w' => e = .returned (.agg (arrOf 4 (ewF ((W + t * B4) % p25)))) ∧ Below w.heap.size w w' := by
 obtain ⟨w3, hw3, hrW, hrR, hbel, hsz⟩ := rowsW2 w (ewF W) 46 51
 obtain ⟨hS, hX⟩ := reduced_lt W t hW ht
 have hmod := reduced_mod W t
 have hcut := cut_p _ hS
 rw [hmod] at hcut
 have HCUT := Lib.hid hcut
 have ho := over_lt W hW
 have hhigh := wd_high W hW
 have hWt : W % top < B4 := Nat.lt_trans (Nat.mod_lt _ top_pos) top_B4
 have hXB : (2 * t + W / top) * 19 < B4 := Nat.lt_trans hX (by decide +kernel)
 have hSB : W % top + (2 * t + W / top) * 19 < B4 := by
   have h2 : top + p25 < B4 := by decide +kernel
   exact Nat.lt_trans (Nat.lt_of_le_of_lt (Nat.le_add_right _ 19) hS) h2
 have hLB : W % top + (2 * t + W / top) * 19 + 19 < B4 := by
   have h2 : top + p25 < B4 := by decide +kernel
   exact Nat.lt_trans hS h2
 have hb1 := cells4_small _ hX
 have hb2 := cells4_small 19 (by decide)
 have hs1 := wsum_any (W % top) ((2 * t + W / top) * 19)
 have hs2 := wsum_any (W % top + (2 * t + W / top) * 19) 19
 rw [Nat.div_eq_of_lt hSB] at hs1
 rw [Nat.div_eq_of_lt hLB] at hs2
 have HS1 := Lib.hid fun w => hs1 w hWt hXB
 have HS2 := Lib.hid fun w => hs2 w hSB (by decide +kernel)
 have hx3 := wd_lt W 3
 have hor := or_add64 1 t (W / top) (by omega) (by omega)
 have hwr1 : IntKind.u64.wrap ((t : Int) * 2) = ((2 ^ 1 * t : Nat) : Int) := by rw [IntWalk.u64_in _ ⟨by omega, by omega⟩]; omega
 have hwr1' : IntKind.u64.wrap ((t : Int) * 2 ^ 1) = ((2 ^ 1 * t : Nat) : Int) := by rw [IntWalk.u64_in _ ⟨by omega, by omega⟩]; omega
 rw [show (2 : Nat) ^ 1 * t + W / top = 2 * t + W / top from rfl] at hor
 have hdv : ((wd W 3 : Nat) : Int) / 9223372036854775808 = ((W / top : Nat) : Int) := by rw [← hhigh]; omega
 have hmul : IntKind.u64.wrap (((2 * t + W / top : Nat) : Int) * 19) = (((2 * t + W / top) * 19 : Nat) : Int) := by rw [IntWalk.u64_in _ ⟨by omega, by omega⟩]; omega
 have hand := andnot_top (wd W 3) hx3
 have hc3 : w3.cell? ⟨w.heap.size, 3, none⟩ = some (.int .u64 ((wd W 3 : Nat) : Int)) := hrW.cell (i := 3) (by omega)
 have hf3 := hrW.frozen 3
 have hrT := row_top hrW
 have hbT := hbel.setCell (p := ⟨w.heap.size, 3, none⟩) (Nat.le_refl _) (.int .u64 ((wd W 3 % 9223372036854775808 : Nat) : Int))
 have hrRT := hrR.setOther (show w.heap.size + 1 ≠ (⟨w.heap.size, 3, none⟩ : Addr).block by show w.heap.size + 1 ≠ w.heap.size; omega) (.int .u64 ((wd W 3 % 9223372036854775808 : Nat) : Int))
 generalize W % top + (2 * t + W / top) * 19 = S at *
 generalize (2 * t + W / top) * 19 = X at *
 generalize 2 * t + W / top = ov at *
 generalize W / top = o at *
 generalize 2 ^ 1 * t = t2 at *
 generalize hlow : wd W 3 % 9223372036854775808 = low at *
 clear hS hX hmod hcut ho hhigh hWt hXB hs1 hs2 hlow ht hW hrW hrR hx3
 have hl3 := wd_lt (S + 19) 3
 have hand2 := and_top (wd (S + 19) 3) hl3
 rw [wd_high _ hLB] at hand2
 have hand3 := andnot_top (wd (S + 19) 3) hl3
 have hL2 : (S + 19) / top < 2 := over_lt _ hLB
 have hq0 : (S + 19) / top = 0 ↔ S + 19 < top := by
   constructor
   · intro h
     apply Classical.byContradiction
     intro hn
     have h3 : 0 < (S + 19) / top := Nat.div_pos (Nat.le_of_not_lt hn) top_pos
     rw [h] at h3
     exact Nat.lt_irrefl 0 h3
   · exact Nat.div_eq_of_lt
 have HY : Hid (∀ (w' : World) b t, w'.rowIs b t 4 (ewF (S + 19)) → w'.cell? ⟨b, 3, none⟩ = some (.int .u64 ((wd (S + 19) 3 : Nat) : Int))) := Lib.hid fun w' b t h => h.cell (i := 3) (by omega)
 have HT : Hid (∀ (w' : World) b t, w'.rowIs b t 4 (ewF (S + 19)) → (w'.setCell ⟨b, 3, none⟩ (.int .u64 ((wd (S + 19) 3 % 9223372036854775808 : Nat) : Int))).rowIs b t 4 (ewF ((S + 19) % top))) := Lib.hid fun w' b t h => row_top h
 obtain ⟨q, hq⟩ := nat_var ((S + 19) / top)
 rw [← hq] at hand2 hL2 hq0
 have HQ0 := Lib.hid hq0
 rw [show ((19 : Nat) : Int) = 19 from rfl] at hb2
 generalize wd (S + 19) 3 % 9223372036854775808 = z3 at *
 generalize wd (S + 19) 3 = y3 at *
 generalize wd W 3 = x3 at *
 have HB1 := Lib.hid hb1
 have HB2 := Lib.hid hb2
 clear hLB hSB hq hq0 hl3 hb1 hb2
 generalize hg0 : w.heap.size = g0 at *
 generalize hg1 : g0 + 1 = g1 at *
 have n10 : g1 ≠ g0 := by omega
 have l1 : g0 ≤ g1 := by omega
 have HG := Lib.hid hg0
 have HG1 := Lib.hid hg1
 have HGS : Hid (∀ wq : World, Below g0 w wq → g0 ≤ wq.heap.size) := Lib.hid fun wq h => by rw [← HG.out]; exact h.size
 have hlt0 := hrT.lt
 have hlt1 := hrRT.lt
 clear hg0 hg1 hsz
 by_cases hq1 : q = 0
 · have hS19 := HQ0.out.1 hq1
   have hres := HCUT.out
   rw [if_pos hS19] at hres
   have HRES := Lib.hid hres
   subst hq1
   rw [show ((0 * 9223372036854775808 : Nat) : Int) = 0 from rfl] at hand2
   clear hS19 hres HCUT HQ0 HT
   go_enter Tryz.func108, Tryz.ntmps108
   go_wp2_with (first
     | (refine wpList_alloc_arr rfl 51 rfl (arrOf 4 (u64f fun _ => 0)) zeroE ?_; simp only [World.size_alloc, HG.out, HG1.out]; rw [← hw3]; clear hw3)
     | (refine wpList_load_arr rfl 46 (.tmp 2) rfl 4 arrW hrT rfl (by omega) ?_; simp only [Nat.zero_add])
     | (go_at_call 124; rw [HB1.out]; refine (HS1.out _).mono ?_; rintro e w5 ⟨rfl, hb5⟩
        have hr5 := hrT.of_block (hb5.block _ hlt0)
        have hR5 := hrRT.of_block (hb5.block _ hlt1)
        have hB5 := hbT.trans (hb5.mono (HGS.out _ hbT))
        have hlt5 := hr5.lt
        have hlt15 := hR5.lt
        clear hrT hrRT hbT hb5 HS1 HB1)
     | (refine wpList_store_arr rfl 46 (.tmp 2) (.tmp 24) rfl 4 arrW hr5 rfl rfl (by omega) (fun _ _ => rfl) ?_; intro w6 hr6 hg6 hs6
        have hr7 : w6.rowIs g0 46 4 (ewF S) := hr6.congr fun i hi => by unfold putN; rw [if_pos (by omega), Nat.sub_zero]
        have hR7 := gb_rowIs hR5 hg6 n10
        have hB7 := hB5.grown hg6 (HGS.out _ hB5) (by intro k hk; cases hk; exact Nat.le_refl _)
        rw [← hs6] at hlt5 hlt15
        clear hr5 hR5 hB5 hr6 hg6 hs6)
     | (refine wpList_load_arr rfl 46 (.tmp 2) rfl 4 arrW hr7 rfl (by omega) ?_; simp only [Nat.zero_add])
     | (go_at_call 124; rw [HB2.out]; refine (HS2.out _).mono ?_; rintro e w8 ⟨rfl, hb8⟩
        have hr8 := (hr7.of_block (hb8.block _ hlt5)).alloc (.cells (arrOf 4 (u64f fun _ => 0)) 46)
        have hR8 := (hR7.of_block (hb8.block _ hlt15)).alloc (.cells (arrOf 4 (u64f fun _ => 0)) 46)
        have hB8' := hB7.trans (hb8.mono (HGS.out _ hB7))
        have hB8 := hB8'.alloc (HGS.out _ hB8') (.cells (arrOf 4 (u64f fun _ => 0)) 46)
        have hl8 := Nat.lt_of_lt_of_le hlt5 hb8.size
        have hl18 := Nat.lt_of_lt_of_le hlt15 hb8.size
        have hL8 := rowIs_arr w8 4 (u64f fun _ => 0) 46
        clear hr7 hR7 hB7 hb8 HS2 hB8' hlt5 hlt15)
     | refine wpList_alloc_arr rfl 46 rfl (arrOf 4 (u64f fun _ => 0)) zeroW ?_
     | (refine wpList_store_arr rfl 46 (.tmp 6) (.tmp 30) rfl 4 arrW hL8 rfl rfl (by omega) (fun _ _ => rfl) ?_; intro w9 hr9 hg9 hs9
        have hL9 : w9.rowIs w8.heap.size 46 4 (ewF (S + 19)) := hr9.congr fun i hi => by unfold putN; rw [if_pos (by omega), Nat.sub_zero]
        have hR9 := gb_rowIs hR8 hg9 (Nat.ne_of_lt hl18)
        have hr99 := gb_rowIs hr8 hg9 (Nat.ne_of_lt hl8)
        have hB9 := hB8.grown hg9 (HGS.out _ hB8) (by intro k hk; cases hk; omega)
        have hcy := HY.out _ _ _ hL9
        have hfy := hL9.frozen 3
        clear hr8 hR8 hB8 hr9 hg9 hs9 hL8)
     | (refine wpList_load_arr rfl 46 (.tmp 2) rfl 4 arrW hr99 rfl (by omega) ?_; simp only [Nat.zero_add])
     | refine wpList_buildE (F := ewF S) rfl (.tmp 36) rfl rfl ?_
     | (refine wpList_store_arr rfl 51 (.tmp 4) (.tmp 37) rfl 4 arrE hR9 rfl rfl (by omega) (fun _ _ => rfl) ?_; intro wa hra hga hsa)
     | fail)
   refine ret_cell_arr rfl arrE hra rfl (by omega) rfl ⟨?_, by exact hB9.grown hga (HGS.out _ hB9) (by intro k hk; cases hk; exact l1)⟩
   rw [agg_putW, ← HRES.out]
 · have hS19 : ¬ S + 19 < top := fun h => hq1 (HQ0.out.2 h)
   have hres := HCUT.out
   rw [if_neg hS19] at hres
   have HRES := Lib.hid hres
   have hq2 : q = 1 := by omega
   subst hq2
   rw [show ((1 * 9223372036854775808 : Nat) : Int) = 9223372036854775808 from rfl] at hand2
   clear hS19 hres HCUT HQ0 hq1
   go_enter Tryz.func108, Tryz.ntmps108
   go_wp2_with (first
     | (refine wpList_alloc_arr rfl 51 rfl (arrOf 4 (u64f fun _ => 0)) zeroE ?_; simp only [World.size_alloc, HG.out, HG1.out]; rw [← hw3]; clear hw3)
     | (refine wpList_load_arr rfl 46 (.tmp 2) rfl 4 arrW hrT rfl (by omega) ?_; simp only [Nat.zero_add])
     | (go_at_call 124; rw [HB1.out]; refine (HS1.out _).mono ?_; rintro e w5 ⟨rfl, hb5⟩
        have hr5 := hrT.of_block (hb5.block _ hlt0)
        have hR5 := hrRT.of_block (hb5.block _ hlt1)
        have hB5 := hbT.trans (hb5.mono (HGS.out _ hbT))
        have hlt5 := hr5.lt
        have hlt15 := hR5.lt
        clear hrT hrRT hbT hb5 HS1 HB1)
     | (refine wpList_store_arr rfl 46 (.tmp 2) (.tmp 24) rfl 4 arrW hr5 rfl rfl (by omega) (fun _ _ => rfl) ?_; intro w6 hr6 hg6 hs6
        have hr7 : w6.rowIs g0 46 4 (ewF S) := hr6.congr fun i hi => by unfold putN; rw [if_pos (by omega), Nat.sub_zero]
        have hR7 := gb_rowIs hR5 hg6 n10
        have hB7 := hB5.grown hg6 (HGS.out _ hB5) (by intro k hk; cases hk; exact Nat.le_refl _)
        rw [← hs6] at hlt5 hlt15
        clear hr5 hR5 hB5 hr6 hg6 hs6)
     | (refine wpList_load_arr rfl 46 (.tmp 2) rfl 4 arrW hr7 rfl (by omega) ?_; simp only [Nat.zero_add])
     | (go_at_call 124; rw [HB2.out]; refine (HS2.out _).mono ?_; rintro e w8 ⟨rfl, hb8⟩
        have hr8 := (hr7.of_block (hb8.block _ hlt5)).alloc (.cells (arrOf 4 (u64f fun _ => 0)) 46)
        have hR8 := (hR7.of_block (hb8.block _ hlt15)).alloc (.cells (arrOf 4 (u64f fun _ => 0)) 46)
        have hB8' := hB7.trans (hb8.mono (HGS.out _ hB7))
        have hB8 := hB8'.alloc (HGS.out _ hB8') (.cells (arrOf 4 (u64f fun _ => 0)) 46)
        have hl8 := Nat.lt_of_lt_of_le hlt5 hb8.size
        have hl18 := Nat.lt_of_lt_of_le hlt15 hb8.size
        have hL8 := rowIs_arr w8 4 (u64f fun _ => 0) 46
        clear hr7 hR7 hB7 hb8 HS2 hB8' hlt5 hlt15)
     | refine wpList_alloc_arr rfl 46 rfl (arrOf 4 (u64f fun _ => 0)) zeroW ?_
     | (refine wpList_store_arr rfl 46 (.tmp 6) (.tmp 30) rfl 4 arrW hL8 rfl rfl (by omega) (fun _ _ => rfl) ?_; intro w9 hr9 hg9 hs9
        have hL9 : w9.rowIs w8.heap.size 46 4 (ewF (S + 19)) := hr9.congr fun i hi => by unfold putN; rw [if_pos (by omega), Nat.sub_zero]
        have hR9 := gb_rowIs hR8 hg9 (Nat.ne_of_lt hl18)
        have hr99 := gb_rowIs hr8 hg9 (Nat.ne_of_lt hl8)
        have hB9 := hB8.grown hg9 (HGS.out _ hB8) (by intro k hk; cases hk; omega)
        have hcy := HY.out _ _ _ hL9
        have hfy := hL9.frozen 3
        have hLt := HT.out _ _ _ hL9
        have hRt := hR9.setOther (show g1 ≠ (⟨w8.heap.size, 3, none⟩ : Addr).block from Nat.ne_of_lt hl18) (.int .u64 (z3 : Int))
        have hBt := hB9.setCell (show g0 ≤ (⟨w8.heap.size, 3, none⟩ : Addr).block from Nat.le_of_lt hl8) (.int .u64 (z3 : Int))
        clear hr8 hR8 hB8 hr9 hg9 hs9 hL8)
     | (refine wpList_load_arr rfl 46 (.tmp 6) rfl 4 arrW hLt rfl (by omega) ?_; simp only [Nat.zero_add])
     | refine wpList_buildE (F := ewF ((S + 19) % top)) rfl (.tmp 42) rfl rfl ?_
     | (refine wpList_store_arr rfl 51 (.tmp 4) (.tmp 43) rfl 4 arrE hRt rfl rfl (by omega) (fun _ _ => rfl) ?_; intro wa hra hga hsa)
     | fail)
   refine ret_cell_arr rfl arrE hra rfl (by omega) rfl ⟨?_, by exact hBt.grown hga (HGS.out _ hBt) (by intro k hk; cases hk; exact l1)⟩
   rw [agg_putW, ← HRES.out]
theorem wpList_indexW {ops : Array Oper} {rest : List Oper} {o : Oper} {a : Act} {w : World} {Q : Exit → Act → World → Prop} (hgd : o.guard = none) (x y : Operand) (ho : o.op = .index 46 x y) (F : Nat → Nat) {j : Nat} (v : Nat) (hv : F j = v)
   (hx : a.eval x = .agg (arrOf 4 (u64f F))) (hy : a.eval y = .int .i64 (j : Int)) (hj : j < 4) (h : wpList Tryz.prog ops Q rest (a.put o.dst (.int .u64 (v : Int))) w) : wpList Tryz.prog ops Q (o :: rest) a w := by
 subst hv
 exact wpList_index_arr hgd 46 45 x y ho 4 Tryz.underlying46 _ Tryz.underlying45 rfl (by kernel_rfl) hx hy hj h
theorem valW_put (g : Nat → Nat) (j x : Nat) : valW (setAt g j x) (j + 1) = valW g j + x * 18446744073709551616 ^ j := by
 rw [valW]
 have : valW (setAt g j x) j = valW g j := valW_congr j fun i hi => by unfold setAt; rw [if_neg (by omega)]
 rw [this]
 unfold setAt
 rw [if_pos rfl]
theorem valW_lt (g : Nat → Nat) (hg : ∀ j, g j < 18446744073709551616) : ∀ n, valW g n < 18446744073709551616 ^ n
 | 0 => by simp [valW]
 | n + 1 => by
   rw [valW, Nat.pow_succ]
   have h1 := valW_lt g hg n
   have h2 : g n * 18446744073709551616 ^ n ≤ 18446744073709551615 * 18446744073709551616 ^ n := Nat.mul_le_mul_right _ (by have := hg n; omega)
   omega
theorem valW_more (g : Nat → Nat) (i : Nat) : ∀ d, ∃ r, valW g (i + d) = valW g i + 18446744073709551616 ^ i * r
 | 0 => ⟨0, by simp⟩
 | d + 1 => by
   obtain ⟨r, hr⟩ := valW_more g i d
   refine ⟨r + g (i + d) * 18446744073709551616 ^ d, ?_⟩
   show valW g (i + d) + g (i + d) * 18446744073709551616 ^ (i + d) = _
   rw [hr, Nat.mul_add, Nat.pow_add]
   have : g (i + d) * (18446744073709551616 ^ i * 18446744073709551616 ^ d) = 18446744073709551616 ^ i * (g (i + d) * 18446744073709551616 ^ d) := by ac_rfl
   omega
theorem wd_valW (g : Nat → Nat) (hg : ∀ j, g j < 18446744073709551616) (i n : Nat) (h : i < n) : wd (valW g n) i = g i := by
 obtain ⟨r, hr⟩ := valW_more g (i + 1) (n - (i + 1))
 rw [show i + 1 + (n - (i + 1)) = n by omega] at hr
 have h1 := valW_lt g hg i
 have h2 := hg i
 unfold wd
 rw [hr, valW, Nat.pow_succ]
 have e : valW g i + g i * 18446744073709551616 ^ i + 18446744073709551616 ^ i * 18446744073709551616 * r = valW g i + 18446744073709551616 ^ i * (g i + 18446744073709551616 * r) := by
   rw [Nat.mul_add, Nat.mul_assoc, Nat.mul_comm (g i)]; omega
 rw [e, Nat.add_mul_div_left _ _ (powW_pos i), Nat.div_eq_of_lt h1]
 omega
theorem setAt_lt (f : Nat → Nat) (i x : Nat) (hf : ∀ j, f j < 18446744073709551616) (hx : x < 18446744073709551616) (j : Nat) : setAt f i x j < 18446744073709551616 := by
 unfold setAt
 split
 · exact hx
 · exact hf j
theorem setAt_zero (f : Nat → Nat) (i x n m : Nat) (hf : ∀ j, n ≤ j → f j = 0) (h : n ≤ m) (hi : i < m) (j : Nat) (hj : m ≤ j) : setAt f i x j = 0 := by
 unfold setAt
 rw [if_neg (by omega)]
 exact hf j (by omega)
set_option maxHeartbeats 4000000 in
theorem mul_any (A C : Nat) (w : World) (hA : A < p25) (hC : C < p25) : Calls Tryz.prog 62 #[.agg (arrOf 4 (ewF A)), .agg (arrOf 4 (ewF C))] w fun e w' => e = .returned (.agg (arrOf 4 (ewF (mulP A C)))) ∧ Below w.heap.size w w' := by
 obtain ⟨w3, hw3, hrA0, hrC0, hrR0, hbel0, hsz⟩ := rowsW3 w (ewF A) (ewF C) 51
 have hrA := hrA0.alloc (.cells (arrOf 8 (u64f fun _ => 0)) 83)
 have hrC := hrC0.alloc (.cells (arrOf 8 (u64f fun _ => 0)) 83)
 have hrR := hrR0.alloc (.cells (arrOf 8 (u64f fun _ => 0)) 83)
 have hrW := rowIs_arr w3 8 (u64f fun _ => 0) 83
 have hbel := hbel0.alloc hbel0.size (.cells (arrOf 8 (u64f fun _ => 0)) 83)
 rw [hsz] at hrW
 have HCB := Lib.hid (Nat.lt_trans hC p25_B4)
 have HALL := Lib.hid (mulW_all A C (Nat.lt_trans hA p25_B4))
 clear hrA0 hrC0 hrR0 hbel0 hA hC
 subst hw3
 go_enter Tryz.func62, Tryz.ntmps62
 go_wp2_with (first
   | refine wpList_alloc_arr rfl 51 rfl (arrOf 4 (u64f fun _ => 0)) zeroE ?_
   | (refine wpList_alloc_arr rfl 83 rfl (arrOf 8 (u64f fun _ => 0)) zeroW8 ?_)
   | (refine wpList_load_arr rfl 46 (.tmp 14) rfl 4 arrW hrA rfl (by omega) ?_; simp only [Nat.zero_add]))
 generalize (((w.alloc (.cells (arrOf 4 (ewF A)) 51)).alloc (.cells (arrOf 4 (ewF C)) 51)).alloc (.cells (arrOf 4 (u64f fun _ => 0)) 51)).alloc (.cells (arrOf 8 (u64f fun _ => 0)) 83) = w4 at *
 generalize hg0 : w.heap.size = g0 at *
 generalize hg3 : g0 + 1 + 1 + 1 = g3 at *
 generalize hg2 : g0 + 1 + 1 = g2 at *
 generalize hg1 : g0 + 1 = g1 at *
 have n03 : g0 ≠ g3 := by omega
 have n13 : g1 ≠ g3 := by omega
 have n23 : g2 ≠ g3 := by omega
 have l2 : g0 ≤ g2 := by omega
 have l3 : g0 ≤ g3 := by omega
 have HG := Lib.hid hg0
 have HGS : Hid (∀ wq : World, Below g0 w wq → g0 ≤ wq.heap.size) := Lib.hid fun wq h => by rw [← HG.out]; exact h.size
 clear hg1 hg2 hg0 hg3 hsz
 go_loopw [16] (fun ii wr => ∃ (i : Nat) (f : Nat → Nat), i ≤ 4 ∧ ii = .int .i64 i ∧ wr.rowIs g3 83 8 (u64f f) ∧ Hid (valW f 8 = mulW A C i 0) ∧ Hid (∀ j, f j < 18446744073709551616) ∧ Hid (∀ j, i + 4 ≤ j → f j = 0) ∧ wr.rowIs g1 51 4 (ewF C) ∧ wr.rowIs g2 51 4 (u64f fun _ => 0) ∧ Below g0 w wr) (fun ii _ => 4 - (intOf ii).toNat)
 case atStart => exact ⟨0, fun _ => 0, Nat.zero_le _, rfl, hrW, Lib.hid (by rw [mulW_zero]; decide), Lib.hid (fun _ => (by decide : (0 : Nat) < 18446744073709551616)), Lib.hid (fun j _ => rfl), hrC, hrR, hbel⟩
 case round =>
   clear hrA hrC hrR hrW hbel
   obtain ⟨i, f, hi, rfl, hW, HV, HBD, HZ, hC, hR, hbel⟩ := hrel
   by_cases hlt : i < 4
   · have hiI : 0 ≤ (i : Int) ∧ (i : Int) < 4 := by omega
     obtain ⟨x, hx⟩ := nat_var (wd A i)
     have hxl := wd_lt A i
     rw [← hx] at hxl
     have HX := Lib.hid hx.symm
     have HXL := Lib.hid hxl
     clear hx hxl
     go_wp2_with (first
       | refine wpList_indexW rfl (.tmp 15) (.tmp 16) rfl (wd A) x HX.out rfl rfl hlt ?_
       | (refine wpList_load_arr rfl 46 (.tmp 20) rfl 4 arrW hC rfl (by omega) ?_; simp only [Nat.zero_add]))
     go_loopw [8, 22] (fun cv kk wq => ∃ (k c : Nat) (f : Nat → Nat), k ≤ 4 ∧ kk = .int .i64 k ∧ cv = .int .u64 c ∧ Hid (c < 18446744073709551616) ∧ wq.rowIs g3 83 8 (u64f f) ∧ Hid (valW f 8 + c * 18446744073709551616 ^ (i + k) = mulW A C i k) ∧ Hid (∀ j, f j < 18446744073709551616) ∧ Hid (∀ j, i + 4 ≤ j → f j = 0) ∧ wq.rowIs g1 51 4 (ewF C) ∧ wq.rowIs g2 51 4 (u64f fun _ => 0) ∧ Below g0 w wq) (fun _ kk _ => 4 - (intOf kk).toNat)
     case atStart => exact ⟨0, 0, f, Nat.zero_le _, rfl, rfl, Lib.hid (by decide), hW, Lib.hid (by rw [Nat.zero_mul, Nat.add_zero]; exact HV.out), HBD, HZ, hC, hR, hbel⟩
     case round =>
       clear hW HV HBD HZ hC hR hbel
       obtain ⟨k, c, f, hk, rfl, rfl, HCL, hW, HV, HBD, HZ, hC, hR, hbel⟩ := hrel
       by_cases hlk : k < 4
       · have hkI : 0 ≤ (k : Int) ∧ (k : Int) < 4 := by omega
         have hik : i + k < 8 := by omega
         obtain ⟨y, hy⟩ := nat_var (wd C k)
         have hyl := wd_lt C k
         rw [← hy] at hyl
         have HY := Lib.hid hy.symm
         have hcW : wr.cell? ⟨g3, i + k, none⟩ = some (.int .u64 ((f (i + k) : Nat) : Int)) := hW.cell hik
         have hfr := hW.frozen (i + k)
         have hm := product_any x y (f (i + k)) c HXL.out hyl (HBD.out _) HCL.out
         have hall := product_le x y (f (i + k)) c HXL.out hyl (HBD.out _) HCL.out
         have hset := fun lo : Nat => row_set hW (i + k) lo (setAt f (i + k) lo) (fun _ _ => rfl)
         have hin := fun lo hi => mulW_in A C f i k c lo hi hik HV.out
         rw [HX.out, HY.out] at hin
         have hw1 : IntKind.i64.wrap ((i : Int) + (k : Int)) = ((i + k : Nat) : Int) := by rw [IntWalk.i64_in _ (by omega)]; omega
         have hikI : 0 ≤ ((i + k : Nat) : Int) ∧ ((i + k : Nat) : Int) < 8 := by omega
         have hbd := fun lo (h : lo < 18446744073709551616) => setAt_lt f (i + k) lo HBD.out h
         have hz := fun lo => setAt_zero f (i + k) lo (i + 4) (i + 4) HZ.out (Nat.le_refl _) (by omega)
         generalize f (i + k) = u at *
         generalize x * y = xy at *
         obtain ⟨lo, hlo⟩ := nat_var ((xy + u + c) % 18446744073709551616)
         obtain ⟨hi, hhi⟩ := nat_var ((xy + u + c) / 18446744073709551616)
         rw [← hlo, ← hhi] at hm
         have hHI : hi < 18446744073709551616 := by omega
         have hLO : lo < 18446744073709551616 := by omega
         have HIN := Lib.hid (hin lo hi (by omega))
         have HSET := Lib.hid (hset lo)
         have HBD2 := Lib.hid (hbd lo hLO)
         have HZ2 := Lib.hid (hz lo)
         have HHI := Lib.hid hHI
         have HM := Lib.hid hm
         generalize setAt f (i + k) lo = fn at *
         generalize hik2 : i + k = ik at *
         have HIK := Lib.hid hik2
         clear hin hset hbd hz hm hlo hhi hHI hLO hall hyl hy hik hik2 HV HBD HZ
         go_wp2_with (first
           | refine wpList_indexW rfl (.tmp 21) (.tmp 22) rfl (wd C) y HY.out rfl rfl hlk ?_
           | (go_at_call 110; refine (HM.out _).mono ?_; rintro e w' ⟨rfl, rfl⟩))
         go_roundw
         case rel => exact ⟨k + 1, hi, fn, by omega, by go_num, rfl, HHI, HSET.out, HIN, HBD2, HZ2, hC.setOther n13 _, hR.setOther n23 _, hbel.setCell (show g0 ≤ (⟨g3, ik, none⟩ : Addr).block from l3) _⟩
         case measure => simp [intOf]; omega
       · obtain rfl : k = 4 := by omega
         have hcW : wr.cell? ⟨g3, i + 4, none⟩ = some (.int .u64 ((f (i + 4) : Nat) : Int)) := hW.cell (by omega)
         have hfr := hW.frozen (i + 4)
         have HSET := Lib.hid (row_set hW (i + 4) c (setAt f (i + 4) c) (fun _ _ => rfl))
         have HOUT := Lib.hid (mulW_out A C f i c hlt HCB.out HV.out (HZ.out _ (Nat.le_refl _)))
         have HBD2 := Lib.hid (setAt_lt f (i + 4) c HBD.out HCL.out)
         have HZ2 := Lib.hid (setAt_zero f (i + 4) c (i + 4) (i + 1 + 4) HZ.out (by omega) (by omega))
         have hw1 : IntKind.i64.wrap ((i : Int) + 4) = ((i + 4 : Nat) : Int) := by rw [IntWalk.i64_in _ (by omega)]; omega
         have hikI : 0 ≤ ((i + 4 : Nat) : Int) ∧ ((i + 4 : Nat) : Int) < 8 := by omega
         generalize setAt f (i + 4) c = fn at *
         generalize f (i + 4) = u at *
         generalize i + 4 = i4 at *
         clear HV HBD HZ
         go_wp2
         go_roundw
         case rel => exact ⟨i + 1, fn, by omega, by go_num, HSET.out, HOUT, HBD2, HZ2, hC.setOther n13 _, hR.setOther n23 _, hbel.setCell (show g0 ≤ (⟨g3, i4, none⟩ : Addr).block from l3) _⟩
         case measure => simp [intOf]; omega
   · obtain rfl : i = 4 := by omega
     have hgs := HGS.out _ hbel
     have hW1 := hW.alloc (.cells (arrOf 4 (u64f fun _ => 0)) 46)
     have hR1 := hR.alloc (.cells (arrOf 4 (u64f fun _ => 0)) 46)
     have hF1 := rowIs_arr wr 4 (u64f fun _ => 0) 46
     have hb1 := hbel.alloc hgs (.cells (arrOf 4 (u64f fun _ => 0)) 46)
     have hlW := hW.lt
     have hlR := hR.lt
     have hval : valW f 8 = A * C := HV.out.trans HALL.out
     have HVAL := Lib.hid hval
     clear hW hR hbel hC hval HV HZ
     go_wp2_with (refine wpList_alloc_arr rfl 46 rfl (arrOf 4 (u64f fun _ => 0)) zeroW ?_)
     generalize hwf : wr.alloc (.cells (arrOf 4 (u64f fun _ => 0)) 46) = wf at *
     generalize hg5 : wr.heap.size = g5 at *
     have n53 : g3 ≠ g5 := by omega
     have n52 : g2 ≠ g5 := by omega
     have l5 : g0 ≤ g5 := by omega
     clear hwf hg5 hlW hlR hgs
     go_loopw [12, 48] (fun cv ii wq => ∃ (j c : Nat) (g : Nat → Nat), j ≤ 4 ∧ ii = .int .i64 j ∧ cv = .int .u64 c ∧ Hid (c ≤ 39) ∧ wq.rowIs g5 46 4 (u64f g) ∧ Hid (valW g j + c * 18446744073709551616 ^ j = foldW f j) ∧ Hid (∀ j, g j < 18446744073709551616) ∧ wq.rowIs g3 83 8 (u64f f) ∧ wq.rowIs g2 51 4 (u64f fun _ => 0) ∧ Below g0 w wq) (fun _ ii _ => 4 - (intOf ii).toNat)
     case atStart => exact ⟨0, 0, fun _ => 0, Nat.zero_le _, rfl, rfl, Lib.hid (by decide), hF1, Lib.hid (by simp [valW, foldW]), Lib.hid (fun _ => (by decide : (0 : Nat) < 18446744073709551616)), hW1, hR1, hb1⟩
     case round =>
       clear hF1 hW1 hR1 hb1
       obtain ⟨j, c, g, hj, rfl, rfl, HCL, hF, HV, HBG, hW, hR, hbel⟩ := hrel
       by_cases hlj : j < 4
       · have hjI : 0 ≤ (j : Int) ∧ (j : Int) < 4 := by omega
         have HXA : Hid (∀ w' : World, w'.rowIs g3 83 8 (u64f f) → w'.cell? ⟨g3, j + 4, none⟩ = some (.int .u64 ((f (j + 4) : Nat) : Int))) := Lib.hid fun w' h => h.cell (by omega)
         have HYC : Hid (∀ w' : World, w'.rowIs g3 83 8 (u64f f) → w'.cell? ⟨g3, j, none⟩ = some (.int .u64 ((f j : Nat) : Int))) := Lib.hid fun w' h => h.cell (by omega)
         have hcF := hF.drew.cell (i := j) hlj
         have hfr := hF.drew.frozen j
         have hcl := HCL.out
         have hm := product_any (f (j + 4)) 38 (f j) c (HBD.out _) (by decide) (HBD.out _) (by omega)
         have hx1 := HBD.out (j + 4)
         have hy1 := HBD.out j
         have hset := fun lo : Nat => row_set_drew hF j lo (setAt g j lo) (fun _ _ => rfl)
         have hstep := fun lo hi => foldW_step f (valW g j) c lo hi j HV.out
         have hbd := fun lo (h : lo < 18446744073709551616) => setAt_lt g j lo HBG.out h
         have hput := fun lo => valW_put g j lo
         have hw1 : IntKind.i64.wrap ((j : Int) + 4) = ((j + 4 : Nat) : Int) := by rw [IntWalk.i64_in _ (by omega)]; omega
         have hj3I : (j : Int) < 8 := by omega
         have hj2I : 0 ≤ ((j + 4 : Nat) : Int) ∧ ((j + 4 : Nat) : Int) < 8 := by omega
         generalize f (j + 4) = x at *
         generalize f j = y at *
         obtain ⟨lo, hlo⟩ := nat_var ((x * 38 + y + c) % 18446744073709551616)
         obtain ⟨hi, hhi⟩ := nat_var ((x * 38 + y + c) / 18446744073709551616)
         rw [← hlo, ← hhi, show ((38 : Nat) : Int) = 38 from rfl] at hm
         have hHI : hi ≤ 39 := by omega
         have hLO : lo < 18446744073709551616 := by omega
         have hst2 := hstep lo hi (by omega)
         rw [← hput lo] at hst2
         have HST := Lib.hid hst2
         have HSET := Lib.hid (hset lo)
         have HBG2 := Lib.hid (hbd lo hLO)
         have HHI := Lib.hid hHI
         have HM := Lib.hid hm
         generalize setAt g j lo = gn at *
         generalize j + 4 = j4 at *
         clear hstep hput hset hbd hm hlo hhi hHI hLO hst2 hx1 hy1 hcl HCL HV HBG
         replace hW := hW.drew
         go_wp2
         refine wp_region_lins [(0, some [14]), (1, some [14]), (2, some [14]), (3, some [14]), (4, some [9, 14]), (5, some [14]), (6, some [14]), (7, some [9, 14]), (8, some [9, 14]), (9, none), (10, some [14]), (11, some [14]), (12, some []), (13, some [14]), (14, none), (15, some [])] (fun c w' => c = 9 → w'.rowIs g3 83 8 (u64f f)) (by kernel_rfl) (by kernel_rfl) (by decide) (by kernel_rfl) (fun d _ _ _ _ h => by cases d <;> exact h) (fun c hc _ => hW) ?_
         refine lins_read 52 (Op.move (Operand.tmp 13)) 3 _ rfl rfl rfl rfl rfl (fun w0 hw0 => by unfold mkOp; go_simp; all_goals (with_reducible rfl)) ?_
         simp only [Act.put, List.setIfInBounds_toArray, List.set_cons_zero, List.set_cons_succ]
         refine lins_read 53 (Op.move (Operand.tmp 13)) 3 _ rfl rfl rfl rfl rfl (fun w0 hw0 => by unfold mkOp; go_simp; all_goals (with_reducible rfl)) ?_
         simp only [Act.put, List.setIfInBounds_toArray, List.set_cons_zero, List.set_cons_succ]
         refine lins_read 54 (Op.binOp BinOp.add 3 (Operand.tmp 53) (Operand.const (Value.int IntKind.i64 4)) 3) 3 (.int .i64 (j4 : Int)) rfl rfl rfl rfl rfl (fun w0 hw0 => by unfold mkOp; go_simp; all_goals (with_reducible rfl)) ?_
         simp only [Act.put, List.setIfInBounds_toArray, List.set_cons_zero, List.set_cons_succ]
         refine lins_read 55 (Op.indexAddr 83 (Operand.tmp 5) (Operand.tmp 54)) 0 _ rfl rfl rfl rfl rfl (fun w0 hw0 => by unfold mkOp; go_simp; all_goals (with_reducible rfl)) ?_
         simp only [Act.put, List.setIfInBounds_toArray, List.set_cons_zero, List.set_cons_succ]
         refine lins_read 56 (Op.load 45 (Operand.tmp 55)) 45 (.int .u64 (x : Int)) rfl rfl rfl rfl rfl (fun w0 hw0 => by have hc0 := HXA.out w0 (hw0 9 (by simp) rfl); unfold mkOp; go_simp; all_goals (with_reducible rfl)) ?_
         simp only [Act.put, List.setIfInBounds_toArray, List.set_cons_zero, List.set_cons_succ]
         refine lins_read 57 (Op.move (Operand.tmp 13)) 3 _ rfl rfl rfl rfl rfl (fun w0 hw0 => by unfold mkOp; go_simp; all_goals (with_reducible rfl)) ?_
         simp only [Act.put, List.setIfInBounds_toArray, List.set_cons_zero, List.set_cons_succ]
         refine lins_read 58 (Op.indexAddr 83 (Operand.tmp 5) (Operand.tmp 57)) 0 _ rfl rfl rfl rfl rfl (fun w0 hw0 => by unfold mkOp; go_simp; all_goals (with_reducible rfl)) ?_
         simp only [Act.put, List.setIfInBounds_toArray, List.set_cons_zero, List.set_cons_succ]
         refine lins_read 59 (Op.load 45 (Operand.tmp 58)) 45 (.int .u64 (y : Int)) rfl rfl rfl rfl rfl (fun w0 hw0 => by have hc0 := HYC.out w0 (hw0 9 (by simp) rfl); unfold mkOp; go_simp; all_goals (with_reducible rfl)) ?_
         simp only [Act.put, List.setIfInBounds_toArray, List.set_cons_zero, List.set_cons_succ]
         refine lins_read 60 (Op.move (Operand.tmp 12)) 45 _ rfl rfl rfl rfl rfl (fun w0 hw0 => by unfold mkOp; go_simp; all_goals (with_reducible rfl)) ?_
         simp only [Act.put, List.setIfInBounds_toArray, List.set_cons_zero, List.set_cons_succ]
         refine lins_fn (some 61) 110 #[Operand.tmp 56, Operand.const (Value.int IntKind.u64 38), Operand.tmp 59, Operand.tmp 60] #[45, 45, 45, 45] _ (HM.out _) rfl rfl rfl rfl Tryz.func110 (by kernel_rfl) (by kernel_rfl) (by go_simp) ?_
         rintro e wm ⟨rfl, rfl⟩
         refine ⟨_, rfl, fun _ _ => True, fun c hc => ⟨trivial, fun w7 _ h => by subst h; simp [writers] at hc⟩, ?_⟩
         simp only [Act.put, List.setIfInBounds_toArray, List.set_cons_zero, List.set_cons_succ]
         refine lins_read 51 (Op.move (Operand.tmp 61)) 98 _ rfl rfl rfl rfl rfl (fun w0 hw0 => by unfold mkOp; go_simp; all_goals (with_reducible rfl)) ?_
         simp only [Act.put, List.setIfInBounds_toArray, List.set_cons_zero, List.set_cons_succ]
         refine lins_read 62 (Op.extract (Operand.tmp 51) 0) 45 _ rfl rfl rfl rfl rfl (fun w0 hw0 => by unfold mkOp; go_simp; all_goals (with_reducible rfl)) ?_
         simp only [Act.put, List.setIfInBounds_toArray, List.set_cons_zero, List.set_cons_succ]
         refine lins_read 63 (Op.extract (Operand.tmp 51) 1) 45 _ rfl rfl rfl rfl rfl (fun w0 hw0 => by unfold mkOp; go_simp; all_goals (with_reducible rfl)) ?_
         simp only [Act.put, List.setIfInBounds_toArray, List.set_cons_zero, List.set_cons_succ]
         refine lins_read 64 (Op.indexAddr 46 (Operand.tmp 11) (Operand.tmp 52)) 0 _ rfl rfl rfl rfl rfl (fun w0 hw0 => by unfold mkOp; go_simp; all_goals (with_reducible rfl)) ?_
         simp only [Act.put, List.setIfInBounds_toArray, List.set_cons_zero, List.set_cons_succ]
         refine lins_store (Op.store 45 (Operand.tmp 64) (Operand.tmp 62)) 0 (_) rfl rfl rfl rfl rfl (by unfold mkOp; go_simp; all_goals (with_reducible rfl)) (fun _ _ => True) (fun c hc => by cases hc) ?_
         try simp only [Act.put, List.setIfInBounds_toArray, List.set_cons_zero, List.set_cons_succ]
         refine lins_read 12 (Op.assign (Operand.tmp 63)) 45 _ rfl rfl rfl rfl rfl (fun w0 hw0 => by unfold mkOp; go_simp; all_goals (with_reducible rfl)) ?_
         simp only [Act.put, List.setIfInBounds_toArray, List.set_cons_zero, List.set_cons_succ]
         refine lins_end ?_
         go_wp2
         go_roundw
         case rel => exact ⟨j + 1, hi, gn, by omega, by go_num, rfl, HHI, HSET.out, HST, HBG2, hW.setOther n53 _, hR.drew.setOther n52 _, hbel.drew.setCell (show g0 ≤ (⟨g5, j, none⟩ : Addr).block from l5) _⟩
         case measure => simp [intOf]; omega
       · obtain rfl : j = 4 := by omega
         have hF' : wr.rowIs g5 46 4 (ewF (valW g 4)) := hF.congr fun i hi => by unfold ewF u64f; rw [wd_valW g HBG.out i 4 hi]
         have hres : (valW g 4 + c * B4) % p25 = mulP A C := by
           rw [B4_eq, HV.out, foldW_mod, HVAL.out]
           rfl
         have HRES := Lib.hid hres
         have hcl := HCL.out
         have HRED := Lib.hid (fun w => reduced_any (valW g 4) c w (by rw [B4_eq]; exact valW_lt g HBG.out 4) (by omega))
         have hgs2 := HGS.out _ hbel
         clear hF hres hcl hW
         go_wp2_with (first
           | (refine wpList_load_arr rfl 46 (.tmp 11) rfl 4 arrW hF' rfl (by omega) ?_; simp only [Nat.zero_add])
           | (go_at_call 108; refine (HRED.out _).mono ?_; rintro e w5 ⟨rfl, hb5⟩
              have hR5 := hR.of_block (hb5.block _ hR.lt)
              have hB5 := hbel.trans (hb5.mono hgs2)
              have hgs5 := Nat.le_trans hgs2 hb5.size
              clear hF' hR hb5)
           | (refine wpList_store_arr rfl 51 (.tmp 4) (.tmp 68) rfl 4 arrE hR5 rfl rfl (by omega) (fun _ _ => rfl) ?_; intro w6 hr6 hg6 hs6))
         refine ret_cell_arr rfl arrE hr6 rfl (by omega) rfl ⟨?_, by rw [HG.out]; exact hB5.grown hg6 hgs5 (by intro k hk; cases hk; exact l2)⟩
         rw [agg_putW, HRES.out]
set_option maxHeartbeats 1000000 in
theorem small_any (n : Nat) (w : World) (hn : n < 18446744073709551616) : Calls Tryz.prog 57 #[.int .u64 (n : Int)] w fun e w' => e = .returned (.agg (arrOf 4 (ewF n))) ∧ Below w.heap.size w w' := by
 have hr := rowIs_arr w 4 (u64f fun _ => 0) 51
 have hb := (Below.refl w.heap.size w).alloc (Nat.le_refl _) (.cells (arrOf 4 (u64f fun _ => 0)) 51)
 have hgs := hb.size
 have HB := Lib.hid (congrArg Value.agg (cells4_small n hn))
 clear hn
 go_enter Tryz.func57, Tryz.ntmps57
 go_wp2_with (first
   | refine wpList_alloc_arr rfl 51 rfl (arrOf 4 (u64f fun _ => 0)) zeroE ?_
   | (refine wpList_store_arr rfl 51 (.tmp 2) (.tmp 5) rfl 4 arrE hr rfl HB.out (by omega) (fun _ _ => rfl) ?_; intro w6 hr6 hg6 hs6))
 refine ret_cell_arr rfl arrE hr6 rfl (by omega) rfl ⟨?_, hb.grown hg6 hgs (by intro k hk; cases hk; exact Nat.le_refl _)⟩
 rw [agg_putW]
set_option maxHeartbeats 2000000 in
theorem add_any (A C : Nat) (w : World) (hA : A < p25) (hC : C < p25) : Calls Tryz.prog 93 #[.agg (arrOf 4 (ewF A)), .agg (arrOf 4 (ewF C))] w fun e w' => e = .returned (.agg (arrOf 4 (ewF (addP A C)))) ∧ Below w.heap.size w w' := by
 obtain ⟨w3, hw3, hrA, hrC, hrR, hbel, hsz⟩ := rowsW3 w (ewF A) (ewF C) 51
 have hAB : A < B4 := Nat.lt_trans hA p25_B4
 have hCB : C < B4 := Nat.lt_trans hC p25_B4
 have hS : A + C < B4 := by
   have h2 : p25 + p25 < B4 := by decide +kernel
   exact Nat.lt_trans (Nat.add_lt_add hA hC) h2
 have hs := wsum_any A C
 rw [Nat.div_eq_of_lt hS] at hs
 have HS := Lib.hid fun w => hs w hAB hCB
 have HR := Lib.hid fun w => reduced_any (A + C) 0 w hS (by decide)
 have HRES := Lib.hid (show (A + C) % p25 = addP A C from rfl)
 have HGS : Hid (∀ wq : World, Below w.heap.size w wq → w.heap.size ≤ wq.heap.size) := Lib.hid fun wq h => h.size
 have l2 : w.heap.size ≤ w.heap.size + 1 + 1 := by omega
 generalize addP A C = T at *
 generalize A + C = V at *
 clear hA hC hAB hCB hS hs hsz
 subst hw3
 go_enter Tryz.func93, Tryz.ntmps93
 go_wp2_with (first
   | refine wpList_alloc_arr rfl 51 rfl (arrOf 4 (u64f fun _ => 0)) zeroE ?_
   | (refine wpList_load_arr rfl 46 (.tmp 8) rfl 4 arrW hrA rfl (by omega) ?_; simp only [Nat.zero_add])
   | (refine wpList_load_arr rfl 46 (.tmp 10) rfl 4 arrW hrC rfl (by omega) ?_; simp only [Nat.zero_add])
   | (go_at_call 124; refine (HS.out _).mono ?_; rintro e w5 ⟨rfl, hb5⟩
      have hR5 := hrR.of_block (hb5.block _ hrR.lt)
      have hB5 := hbel.trans (hb5.mono (HGS.out _ hbel))
      have hl5 := hR5.lt
      have hR8 := hR5.alloc (.cells (arrOf 4 (u64f fun _ => 0)) 46)
      have hB8 := hB5.alloc (HGS.out _ hB5) (.cells (arrOf 4 (u64f fun _ => 0)) 46)
      have hL8 := rowIs_arr w5 4 (u64f fun _ => 0) 46
      clear hrA hrC hrR hbel hb5 hR5 hB5 HS)
   | refine wpList_alloc_arr rfl 46 rfl (arrOf 4 (u64f fun _ => 0)) zeroW ?_
   | (refine wpList_store_arr rfl 46 (.tmp 5) (.tmp 13) rfl 4 arrW hL8 rfl rfl (by omega) (fun _ _ => rfl) ?_; intro w9 hr9 hg9 hs9
      have hL9 : w9.rowIs w5.heap.size 46 4 (ewF V) := hr9.congr fun i hi => by unfold putN; rw [if_pos (by omega), Nat.sub_zero]
      have hR9 := gb_rowIs hR8 hg9 (Nat.ne_of_lt hl5)
      have hB9 := hB8.grown hg9 (HGS.out _ hB8) (by intro k hk; cases hk; omega)
      clear hR8 hB8 hr9 hg9 hs9 hL8)
   | (refine wpList_load_arr rfl 46 (.tmp 5) rfl 4 arrW hL9 rfl (by omega) ?_; simp only [Nat.zero_add])
   | (go_at_call 108; refine (HR.out _).mono ?_; rintro e wa ⟨rfl, hba⟩
      have hRa := hR9.of_block (hba.block _ hR9.lt)
      have hBa := hB9.trans (hba.mono (HGS.out _ hB9))
      clear hR9 hB9 hba hL9 HR)
   | (refine wpList_store_arr rfl 51 (.tmp 4) (.tmp 17) rfl 4 arrE hRa rfl rfl (by omega) (fun _ _ => rfl) ?_; intro wb hrb hgb hsb))
 refine ret_cell_arr rfl arrE hrb rfl (by omega) rfl ⟨?_, hBa.grown hgb (HGS.out _ hBa) (by intro k hk; cases hk; exact l2)⟩
 rw [agg_putW, HRES.out]
set_option maxHeartbeats 2000000 in
theorem neg_any (A : Nat) (w : World) (hA : A < p25) : Calls Tryz.prog 90 #[.agg (arrOf 4 (ewF A))] w fun e w' => e = .returned (.agg (arrOf 4 (ewF (oppP A)))) ∧ Below w.heap.size w w' := by
 obtain ⟨w2, hw2, hrA0, hrR0, hbel0, hsz⟩ := rowsW2 w (ewF A) 51 51
 obtain ⟨D, hD⟩ : ∃ D, p25 = D + A := ⟨p25 - A, (Nat.sub_add_cancel (Nat.le_of_lt hA)).symm⟩
 have hDB : D < B4 := Nat.lt_of_le_of_lt (by rw [hD]; exact Nat.le_add_right _ _) p25_B4
 have HR := Lib.hid fun w => reduced_any D 0 w hDB (by decide)
 have hres : D % p25 = oppP A := by
   rw [oppP_eq]
   unfold negP
   rw [Nat.mod_eq_of_lt hA]
   have h2 : p25 - A = D := by rw [hD]; exact Nat.add_sub_cancel _ _
   rw [h2]
 have HRES := Lib.hid hres
 have HSUB := Lib.hid fun j => wd_sub D A p25 j hD
 have hrR := hrR0.alloc (.cells (arrOf 4 (u64f fun _ => 0)) 46)
 have hrL := rowIs_arr w2 4 (u64f fun _ => 0) 46
 have hbel := hbel0.alloc hbel0.size (.cells (arrOf 4 (u64f fun _ => 0)) 46)
 rw [hsz] at hrL
 have HGS : Hid (∀ wq : World, Below w.heap.size w wq → w.heap.size ≤ wq.heap.size) := Lib.hid fun wq h => h.size
 have n12 : w.heap.size + 1 ≠ w.heap.size + 1 + 1 := by omega
 have l2 : w.heap.size ≤ w.heap.size + 1 + 1 := by omega
 have l1 : w.heap.size ≤ w.heap.size + 1 := by omega
 have HP : Hid (Value.agg #[.int .u64 18446744073709551597, .int .u64 18446744073709551615, .int .u64 18446744073709551615, .int .u64 9223372036854775807] = .agg (arrOf 4 (ewF p25))) := Lib.hid (by kernel_rfl)
 generalize oppP A = T at *
 clear hDB hres hrR0 hbel0 hsz hD hA
 have hrB := hrA0
 clear hrA0
 have hrA := hrB.alloc (.cells (arrOf 4 (u64f fun _ => 0)) 46)
 clear hrB
 subst hw2
 go_enter Tryz.func90, Tryz.ntmps90
 go_wp2_with (first
   | refine wpList_alloc_arr rfl 51 rfl (arrOf 4 (u64f fun _ => 0)) zeroE ?_
   | (refine wpList_alloc_arr rfl 46 rfl (arrOf 4 (u64f fun _ => 0)) zeroW ?_; simp only [World.size_alloc])
   | (refine wpList_store_arr rfl 46 (.tmp 3) (.tmp 7) rfl 4 arrW hrL rfl HP.out (by omega) (fun _ _ => rfl) ?_; intro w9 hr9 hg9 hs9
      have hL9 : w9.rowIs (w.heap.size + 1 + 1) 46 4 (ewF p25) := hr9.congr fun i hi => by unfold putN; rw [if_pos (by omega), Nat.sub_zero]
      have hA9 := gb_rowIs hrA hg9 (by omega)
      have hR9 := gb_rowIs hrR hg9 n12
      have hB9 := hbel.grown hg9 (HGS.out _ hbel) (by intro k hk; cases hk; exact l2)
      clear hrR hbel hr9 hg9 hs9 hrL hrA)
   | (refine wpList_load_arr rfl 46 (.tmp 8) rfl 4 arrW hA9 rfl (by omega) ?_; simp only [Nat.zero_add]))
 generalize hg0 : w.heap.size = g0 at *
 generalize hg2 : g0 + 1 + 1 = g2 at *
 generalize hg1 : g0 + 1 = g1 at *
 have HG := Lib.hid hg0
 clear hg0 hg1 hg2 hA9
 go_loopw [4, 10] (fun cv i wr => ∃ j : Nat, j ≤ 4 ∧ i = .int .i64 j ∧ cv = .int .u64 ((addW D A j : Nat) : Int) ∧ wr.rowIs g2 46 4 (u64f fun i => if i < j then wd D i else wd p25 i) ∧ wr.rowIs g1 51 4 (u64f fun _ => 0) ∧ Below g0 w wr) (fun _ i _ => 4 - (intOf i).toNat)
 case atStart => exact ⟨0, Nat.zero_le _, rfl, by rw [addW_zero]; rfl, hL9.congr fun i _ => rfl, hR9, hB9⟩
 case round =>
   clear hL9 hR9 hB9
   obtain ⟨j, hj, rfl, rfl, hL, hR, hbel⟩ := hrel
   by_cases hlt : j < 4
   · have hjI : 0 ≤ (j : Int) ∧ (j : Int) < 4 := by omega
     obtain ⟨x, hx⟩ := nat_var (wd A j)
     have HX := Lib.hid hx.symm
     have hstep := HSUB.out j
     have hfr := hL.frozen j
     have hcL0 := hL.cell (i := j) hlt
     have hcL : wr.cell? ⟨g2, j, none⟩ = some (.int .u64 ((wd p25 j : Nat) : Int)) := by
       rw [hcL0]
       show some (Value.int .u64 (((if j < j then wd D j else wd p25 j) : Nat) : Int)) = _
       rw [if_neg (Nat.lt_irrefl j)]
     have hset : (wr.setCell ⟨g2, j, none⟩ (.int .u64 ((wd D j : Nat) : Int))).rowIs g2 46 4 (u64f fun i => if i < j + 1 then wd D i else wd p25 i) := row_set hL _ _ _ (fun i hi => by
       by_cases e : i = j
       · subst e; rw [if_pos (Nat.lt_succ_self i), if_pos rfl]
       · rw [if_neg e]
         by_cases h2 : i < j
         · rw [if_pos h2, if_pos (by omega)]
         · rw [if_neg h2, if_neg (by omega)])
     have HSET := Lib.hid hset
     have hrun := sub64_run (wd p25 j) (wd A j) (addW D A j) (addW_le D A j)
     rw [hstep.1, hstep.2, ← hx] at hrun
     generalize hc2 : addW D A (j + 1) = c2 at *
     have HC2 := Lib.hid hc2
     generalize wd D j = s at *
     generalize addW D A j = c at *
     generalize wd p25 j = y at *
     clear hset hstep hcL0 hc2 hx hL
     go_wp2_with (first
       | refine wpList_indexW rfl (.tmp 9) (.tmp 10) rfl (wd A) x HX.out rfl rfl hlt ?_
       | simp only [hrun])
     go_roundw
     case rel => exact ⟨j + 1, by omega, by go_num, by rw [HC2.out], HSET.out, hR.setOther (show g1 ≠ (⟨g2, j, none⟩ : Addr).block from n12) _, hbel.setCell (show g0 ≤ (⟨g2, j, none⟩ : Addr).block from l2) _⟩
     case measure => simp [intOf]; omega
   · obtain rfl : j = 4 := by omega
     have hR' : wr.rowIs g2 46 4 (ewF D) := hL.congr fun i hi => by dsimp only [ewF, u64f]; rw [if_pos hi]
     clear hL
     go_wp2_with (first
       | (refine wpList_load_arr rfl 46 (.tmp 3) rfl 4 arrW hR' rfl (by omega) ?_; simp only [Nat.zero_add])
       | (go_at_call 108; refine (HR.out _).mono ?_; rintro e wa ⟨rfl, hba⟩
          have hRa := hR.of_block (hba.block _ hR.lt)
          have hBa := hbel.trans (hba.mono (HGS.out _ hbel))
          clear hR hbel hba hR' HR)
       | (refine wpList_store_arr rfl 51 (.tmp 2) (.tmp 27) rfl 4 arrE hRa rfl rfl (by omega) (fun _ _ => rfl) ?_; intro wb hrb hgb hsb))
     refine ret_cell_arr rfl arrE hrb rfl (by omega) rfl ⟨?_, by rw [HG.out]; exact hBa.grown hgb (HGS.out _ hBa) (by intro k hk; cases hk; exact l1)⟩
     rw [agg_putW, HRES.out]
theorem sub_opp (A C : Nat) : addP A (oppP C) = subP p25 A C := by
 rw [oppP_eq]
 rfl
set_option maxHeartbeats 1000000 in
theorem sub_any (A C : Nat) (w : World) (hA : A < p25) (hC : C < p25) : Calls Tryz.prog 94 #[.agg (arrOf 4 (ewF A)), .agg (arrOf 4 (ewF C))] w fun e w' => e = .returned (.agg (arrOf 4 (ewF (subP p25 A C)))) ∧ Below w.heap.size w w' := by
 obtain ⟨w3, hw3, hrA0, hrC0, hrR0, hbel0, hsz⟩ := rowsW3 w (ewF A) (ewF C) 51
 have hrA := hrA0.drew
 have hrC := hrC0.drew
 have hrR := hrR0.drew
 have hbel := hbel0.drew
 have HGS : Hid (∀ wq : World, Below w.heap.size w wq → w.heap.size ≤ wq.heap.size) := Lib.hid fun wq h => h.size
 have l2 : w.heap.size ≤ w.heap.size + 1 + 1 := by omega
 clear hrA0 hrC0 hrR0 hbel0 hsz
 subst hw3
 go_enter Tryz.func94, Tryz.ntmps94
 go_wp2_with (refine wpList_alloc_arr rfl 51 rfl (arrOf 4 (u64f fun _ => 0)) zeroE ?_)
 refine wp_region_lins [(0, some [3, 4]), (1, some [2, 4]), (2, none), (3, none), (4, none)] (fun c w' => (c = 2 → w'.rowIs (w.heap.size + 1) 51 4 (ewF C)) ∧ (c = 3 → w'.rowIs w.heap.size 51 4 (ewF A))) (by kernel_rfl) (by kernel_rfl) (by decide) (by kernel_rfl) (fun d _ _ _ _ h => by cases d <;> exact h) (fun c hc => ⟨fun _ => hrC, fun _ => hrA⟩) ?_
 refine lins_read 5 (Op.load 51 (Operand.tmp 2)) 51 (.agg (arrOf 4 fun i => ewF A (0 + i))) rfl rfl rfl rfl rfl (fun w0 hw0 => by exact exec_load_arr _ _ _ _ rfl arrE ((hw0 3 (by simp)).2 rfl) (by omega)) ?_
 simp only [Act.put, List.setIfInBounds_toArray, List.set_cons_zero, List.set_cons_succ, Nat.zero_add]
 refine lins_read 6 (Op.load 51 (Operand.tmp 3)) 51 (.agg (arrOf 4 fun i => ewF C (0 + i))) rfl rfl rfl rfl rfl (fun w0 hw0 => by exact exec_load_arr _ _ _ _ rfl arrE ((hw0 2 (by simp)).1 rfl) (by omega)) ?_
 simp only [Act.put, List.setIfInBounds_toArray, List.set_cons_zero, List.set_cons_succ, Nat.zero_add]
 refine lins_fn (some 7) 90 #[Operand.tmp 6] #[51] _ (neg_any C _ hC) rfl rfl rfl rfl Tryz.func90 (by kernel_rfl) (by kernel_rfl) (by go_simp) ?_
 rintro e w5 ⟨rfl, hb5⟩
 replace hrA := World.rowIs.of_block hrA (hb5.block _ (World.rowIs.lt hrA))
 replace hrR := World.rowIs.of_block hrR (hb5.block _ (World.rowIs.lt hrR))
 replace hbel := Below.trans hbel (hb5.mono (HGS.out _ hbel))
 refine ⟨_, rfl, fun c w' => c = 3 → w'.rowIs w.heap.size 51 4 (ewF A), fun c hc => ⟨fun _ => hrA, fun w6 h6 => ⟨fun h => by subst h; simp [writers] at hc, h6⟩⟩, ?_⟩
 simp only [Act.put, List.setIfInBounds_toArray, List.set_cons_zero, List.set_cons_succ, Nat.zero_add]
 refine lins_fn (some 8) 93 #[Operand.tmp 5, Operand.tmp 7] #[51, 51] _ (add_any A (oppP C) _ hA (oppP_lt C)) rfl rfl rfl rfl Tryz.func93 (by kernel_rfl) (by kernel_rfl) (by go_simp) ?_
 rintro e w6 ⟨rfl, hb6⟩
 replace hrR := World.rowIs.of_block hrR (hb6.block _ (World.rowIs.lt hrR))
 replace hbel := Below.trans hbel (hb6.mono (HGS.out _ hbel))
 refine ⟨_, rfl, fun _ _ => True, fun c hc => ⟨trivial, fun w7 _ h => by subst h; simp [writers] at hc⟩, ?_⟩
 simp only [Act.put, List.setIfInBounds_toArray, List.set_cons_zero, List.set_cons_succ, Nat.zero_add]
 refine lins_store_arr (k := 4) (off := 0) 51 (.tmp 4) (.tmp 8) rfl rfl rfl rfl hrR rfl rfl arrE (by omega) (fun _ _ => rfl) ?_
 intro w7 hr7 hg7 hs7
 refine ⟨fun _ _ => True, fun c hc => (by cases hc), ?_⟩
 try simp only [Act.put, List.setIfInBounds_toArray, List.set_cons_zero, List.set_cons_succ, Nat.zero_add]
 refine lins_end ?_
 go_wp2
 refine ret_cell_arr rfl arrE hr7 rfl (by omega) rfl ⟨?_, Below.grown hbel hg7 (HGS.out _ hbel) (by intro k hk; cases hk; exact l2)⟩
 rw [agg_putW, sub_opp]
theorem wd_inj {A B : Nat} (hA : A < p25) (hB : B < p25) : (∀ j, j < 4 → ((wd A j : Nat) : Int) = ((wd B j : Nat) : Int)) ↔ A = B := by
 constructor
 · intro h
   have h1 := valW_congr 4 (f := wd A) (g := wd B) (fun j hj => by have := h j hj; omega)
   rwa [wd_all _ (Nat.lt_trans hA p25_B4), wd_all _ (Nat.lt_trans hB p25_B4)] at h1
 · intro h j _; rw [h]
theorem run_part_words (F : Nat → Value) (w : World) : (part 46 (arrOf 4 F) 0).run Tryz.prog w = .ok (.agg (arrOf 4 F)) w := by
 have hg : (isAgg 46).run Tryz.prog w = .ok true w := by
   unfold isAgg
   rw [Sem.run_bind, run_underlying Tryz.underlying46 w]
   simp
 have hi : (Tryz.prog.info? 46).map (fun i => i.size) = some 4 := by kernel_rfl
 cases hq : Tryz.prog.info? 46 with
 | none => simp [hq] at hi
 | some i =>
   have hs : i.size = 4 := by simpa [hq] using hi
   simp [part, hg, sizeOf, typeInfo, hq, hs, Result.andThen]
   right
   rw [arrOf_size]
   exact Nat.le_refl _
set_option maxRecDepth 10000 in
theorem fieldsE : ∃ f : Field, Tryz.prog.fieldsOf 51 = #[f] ∧ f.name ≠ "_" ∧ f.type = 46 ∧ f.offset = 0 := ⟨_, rfl, by decide, rfl, rfl⟩
theorem run_eqE (w : World) (A C : Nat) (hA : A < p25) (hC : C < p25) : (Op.equalIn 10000 51 (.agg (arrOf 4 (ewF A))) (.agg (arrOf 4 (ewF C)))).run Tryz.prog w = .ok (decide (A = C)) w := by
 obtain ⟨f, hf, hn, ht, ho⟩ := fieldsE
 rw [run_equalIn_struct (P := Tryz.prog) w 9999 51 _ _ (by kernel_rfl) (by kernel_rfl), hf]
 have h2 := run_eq_arr2 (P := Tryz.prog) w 9997 46 45 4 .u64 (fun j => ((wd A j : Nat) : Int)) (fun j => ((wd C j : Nat) : Int)) Tryz.underlying46 Tryz.underlying45 (by kernel_rfl)
 have hp1 := run_part_words (ewF A) w
 have hp2 := run_part_words (ewF C) w
 have h3 : (Op.equalIn 9999 46 (.agg (arrOf 4 (ewF A))) (.agg (arrOf 4 (ewF C)))).run Tryz.prog w = .ok (decide (A = C)) w := by
   refine h2.trans ?_
   by_cases e : A = C
   · rw [decide_eq_true e, decide_eq_true ((wd_inj hA hC).2 e)]
   · rw [decide_eq_false e, decide_eq_false (fun h => e ((wd_inj hA hC).1 h))]
 simp only [Op.eqFields, ht, ho, ne_eq, hn, not_false_eq_true, if_true, Sem.run_bind, hp1, hp2, h3, Result.andThen_ok]
 cases decide (A = C) <;> simp
theorem same_any (A C : Nat) (w : World) (hA : A < p25) (hC : C < p25) : Calls Tryz.prog 88 #[.agg (arrOf 4 (ewF A)), .agg (arrOf 4 (ewF C))] w fun e w' => e = .returned (.bool (decide (A = C))) ∧ Below w.heap.size w w' := by
 have hrA := (rowIs_arr w 4 (ewF A) 51).alloc (.cells (arrOf 4 (ewF C)) 51)
 have hrC := rowIs_arr (w.alloc (.cells (arrOf 4 (ewF A)) 51)) 4 (ewF C) 51
 have hbel := ((Below.refl w.heap.size w).alloc (Nat.le_refl _) (.cells (arrOf 4 (ewF A)) 51)).alloc (by simp) (.cells (arrOf 4 (ewF C)) 51)
 have HQ := Lib.hid fun w x y => run_eqGuard_agg (P := Tryz.prog) w .eql 51 x y (arrOf 4 (ewF A)) (arrOf 4 (ewF C)) (by kernel_rfl)
 have HE : Hid (∀ w : World, (binOp .eql 51 (.agg (arrOf 4 (ewF A))) (.agg (arrOf 4 (ewF C)))).run Tryz.prog w = .ok (.bool (decide (A = C))) w) := Lib.hid fun w => by
   rw [run_eql_struct (P := Tryz.prog) w 51 (arrOf 4 (ewF A)) (arrOf 4 (ewF C)), run_eqE w A C hA hC]
   rfl
 rw [World.size_alloc] at hrC
 clear hA hC
 go_enter Tryz.func88, Tryz.ntmps88
 go_wp2_with (first
   | (refine wpList_load_arr rfl 51 (.tmp 2) rfl 4 arrE hrA rfl (by omega) ?_; simp only [Nat.zero_add])
   | (refine wpList_load_arr rfl 51 (.tmp 3) rfl 4 arrE hrC rfl (by omega) ?_; simp only [Nat.zero_add])
   | refine wpList_bin2 rfl .eql 51 51 (.tmp 5) (.tmp 6) rfl (fun w => HQ.out w _ _) (fun w => HE.out w) rfl rfl ?_)
 go_ret
 exact ⟨rfl, hbel⟩
theorem odd_any (A : Nat) (w : World) : Calls Tryz.prog 64 #[.agg (arrOf 4 (ewF A))] w fun e w' => e = .returned (.bool (decide (A % 2 = 1))) ∧ Below w.heap.size w w' := by
 have hrA := rowIs_arr w 4 (ewF A) 51
 have hbel := (Below.refl w.heap.size w).alloc (Nat.le_refl _) (.cells (arrOf 4 (ewF A)) 51)
 have hc0 := hrA.cell (i := 0) (by omega)
 have hm := mask64 (wd A 0) 1 (wd_lt A 0) (by decide) 1 rfl
 have hpar : wd A 0 % 2 ^ 1 = A % 2 := by rw [wd_zero]; omega
 rw [hpar] at hm
 have hc : (w.alloc (.cells (arrOf 4 (ewF A)) 51)).cell? ⟨w.heap.size, 0, none⟩ = some (.int .u64 ((wd A 0 : Nat) : Int)) := hc0
 clear hrA hc0 hpar
 by_cases h : A % 2 = 1
 · rw [decide_eq_true h]
   rw [h] at hm
   generalize wd A 0 = x at *
   clear h
   go_enter Tryz.func64, Tryz.ntmps64
   go_wp2
   go_ret
   exact ⟨rfl, hbel⟩
 · rw [decide_eq_false h]
   rw [show A % 2 = 0 by omega] at hm
   generalize wd A 0 = x at *
   clear h
   go_enter Tryz.func64, Tryz.ntmps64
   go_wp2
   go_ret
   exact ⟨rfl, hbel⟩
set_option maxHeartbeats 1000000 in
theorem pick_any (y : Bool) (A C : Nat) (w : World) : Calls Tryz.prog 89 #[.bool y, .agg (arrOf 4 (ewF A)), .agg (arrOf 4 (ewF C))] w fun e w' => e = .returned (.agg (arrOf 4 (ewF (if y = true then A else C)))) ∧ Below w.heap.size w w' := by
 obtain ⟨w3, hw3, hrA, hrC, hrR, hbel, hsz⟩ := rowsW3 w (ewF A) (ewF C) 51
 have HGS : Hid (∀ wq : World, Below w.heap.size w wq → w.heap.size ≤ wq.heap.size) := Lib.hid fun wq h => h.size
 have l2 : w.heap.size ≤ w.heap.size + 1 + 1 := by omega
 clear hsz
 subst hw3
 cases y
 · go_enter Tryz.func89, Tryz.ntmps89
   go_wp2_with (first
     | refine wpList_alloc_arr rfl 51 rfl (arrOf 4 (u64f fun _ => 0)) zeroE ?_
     | (refine wpList_load_arr rfl 51 (.tmp 5) rfl 4 arrE hrC rfl (by omega) ?_; simp only [Nat.zero_add, World.size_alloc])
     | (refine wpList_store_arr rfl 51 (.tmp 6) (.tmp 9) rfl 4 arrE hrR rfl rfl (by omega) (fun _ _ => rfl) ?_; intro wb hrb hgb hsb))
   refine ret_cell_arr rfl arrE hrb rfl (by omega) rfl ⟨?_, hbel.grown hgb (HGS.out _ hbel) (by intro k hk; cases hk; exact l2)⟩
   rw [agg_putW]
   try rfl
 · go_enter Tryz.func89, Tryz.ntmps89
   go_wp2_with (first
     | refine wpList_alloc_arr rfl 51 rfl (arrOf 4 (u64f fun _ => 0)) zeroE ?_
     | (refine wpList_load_arr rfl 51 (.tmp 4) rfl 4 arrE hrA rfl (by omega) ?_; simp only [Nat.zero_add, World.size_alloc])
     | (refine wpList_store_arr rfl 51 (.tmp 6) (.tmp 8) rfl 4 arrE hrR rfl rfl (by omega) (fun _ _ => rfl) ?_; intro wb hrb hgb hsb))
   refine ret_cell_arr rfl arrE hrb rfl (by omega) rfl ⟨?_, hbel.grown hgb (HGS.out _ hbel) (by intro k hk; cases hk; exact l2)⟩
   rw [agg_putW]
   try rfl
theorem wpList_lesser {ops : Array Oper} {rest : List Oper} {o : Oper} {a : Act} {w : World} {Q : Exit → Act → World → Prop} (hgd : o.guard = none) (x y : Operand) {ts : Array TypeId} (ho : o.op = .call { callee := .builtin .min, args := #[x, y], argTypes := ts }) {k : IntKind} {i j m : Int}
   (hx : a.eval x = .int k i) (hy : a.eval y = .int k j) (hm : m = if j < i then j else i) (h : wpList Tryz.prog ops Q rest (a.put o.dst (.int k m)) w) : wpList Tryz.prog ops Q (o :: rest) a w := by
 refine wpList_value hgd (.int k m) ?_ h
 subst hm
 simp [execOp, ho, resolve, invoke, builtin, hx, hy, run_min_int2, Result.andThen]
set_option maxHeartbeats 4000000 in
theorem often_any (A k c N : Nat) (kv cv : Int) (w : World) (hkv : kv = (k : Int) + 1) (hcv : cv = (c : Int)) (hA : A < p25) (hk0 : 1 ≤ k) (hk1 : k ≤ 1000) (hc0 : 0 < c) (hc1 : c < 18446744073709551616) (hN : N / 2 ^ k = 1)
   (hbit : ∀ i, i < k → (18446744073709551616 - c) / 2 ^ (min i 63) % 2 = N / 2 ^ i % 2) :
   Calls Tryz.prog 109 #[.func (.func 62) #[] #[], .agg (arrOf 4 (ewF A)), .int .i64 kv, .int .u64 cv] w fun e w' => e = .returned (.agg (arrOf 4 (ewF (A ^ N % p25)))) ∧ Below w.heap.size w w' := by
 subst hkv hcv
 obtain ⟨w3, hw3, hrA, hrR, hrX, hbel, hsz⟩ := rowsW3 w (ewF A) (u64f fun _ => 0) 51
 have hrA0 := (rowIs_arr w 4 (ewF A) 51).alloc (.cells (arrOf 4 (u64f fun _ => 0)) 51)
 have HBIT := Lib.hid hbit
 have HA := Lib.hid hA
 have hone : A = A ^ (N / 2 ^ k) % p25 := by rw [hN, Nat.pow_one, Nat.mod_eq_of_lt hA]
 have HONE := Lib.hid hone
 have hwk : IntKind.i64.wrap ((k : Int) + 1 - 2) = (k : Int) - 1 := by rw [IntWalk.i64_in _ (by omega)]; omega
 have hneg : IntKind.u64.wrap (-(c : Int)) = ((18446744073709551616 - c : Nat) : Int) := by rw [IntKind.wrap_u64]; omega
 have hncl : 18446744073709551616 - c < 18446744073709551616 := by omega
 generalize hnc : 18446744073709551616 - c = nc at *
 have HGS : Hid (∀ wq : World, Below w.heap.size w wq → w.heap.size ≤ wq.heap.size) := Lib.hid fun wq h => h.size
 clear hsz hone hN hbit hnc hA hc0 hc1
 subst hw3
 go_enter Tryz.func109, Tryz.ntmps109
 go_wp2_with (first
   | (refine wpList_alloc_arr rfl 51 rfl (arrOf 4 (u64f fun _ => 0)) zeroE ?_; try simp only [World.size_alloc])
   | (refine wpList_load_arr rfl 51 (.tmp 5) rfl 4 arrE hrA0 rfl (by omega) ?_; simp only [Nat.zero_add])
   | (refine wpList_store_arr rfl 51 (.tmp 9) (.tmp 11) rfl 4 arrE hrX rfl rfl (by omega) (fun _ _ => rfl) ?_; intro w9 hr9 hg9 hs9
      have hX9 : w9.rowIs (w.heap.size + 1 + 1) 51 4 (ewF (A ^ (N / 2 ^ k) % p25)) := hr9.congr fun i hi => by unfold putN; rw [if_pos (by omega), Nat.sub_zero, ← HONE.out]
      have hA9 := gb_rowIs hrA hg9 (by omega)
      have hR9 := gb_rowIs hrR hg9 (by omega)
      have hB9 := hbel.grown hg9 (HGS.out _ hbel) (by intro k hk; cases hk; omega)
      clear hrA hrR hrX hbel hr9 hg9 hs9))
 generalize hg0 : w.heap.size = g0 at *
 generalize hg2 : g0 + 1 + 1 = g2 at *
 generalize hg1 : g0 + 1 = g1 at *
 have n02 : g0 ≠ g2 := by omega
 have n12 : g1 ≠ g2 := by omega
 have l1 : g0 ≤ g1 := by omega
 have l2 : g0 ≤ g2 := by omega
 have HG := Lib.hid hg0
 clear hg0 hg1 hg2 hrA0
 go_loopw [10] (fun ii wr => ∃ m : Nat, m ≤ k ∧ ii = .int .i64 ((m : Int) - 1) ∧ wr.rowIs g2 51 4 (ewF (A ^ (N / 2 ^ m) % p25)) ∧ wr.rowIs g0 51 4 (ewF A) ∧ wr.rowIs g1 51 4 (u64f fun _ => 0) ∧ Below g0 w wr) (fun ii _ => ((intOf ii) + 1).toNat)
 case atStart => exact ⟨k, Nat.le_refl _, rfl, hX9, hA9, hR9, hB9⟩
 case round =>
   clear hX9 hA9 hR9 hB9
   obtain ⟨m, hm, rfl, hX, hA, hR, hbel⟩ := hrel
   cases m with
   | zero =>
     rw [Nat.pow_zero, Nat.div_one] at hX
     go_wp2_with (first
       | (refine wpList_load_arr rfl 51 (.tmp 9) rfl 4 arrE hX rfl (by omega) ?_; simp only [Nat.zero_add])
       | (refine wpList_store_arr rfl 51 (.tmp 8) (.tmp 33) rfl 4 arrE hR rfl rfl (by omega) (fun _ _ => rfl) ?_; intro w9 hr9 hg9 hs9))
     refine ret_cell_arr rfl arrE hr9 rfl (by omega) rfl ⟨?_, by rw [HG.out]; exact hbel.grown hg9 (HGS.out _ hbel) (by intro k hk; cases hk; exact l1)⟩
     rw [agg_putW]
   | succ i =>
     rw [show ((i + 1 : Nat) : Int) - 1 = (i : Int) by omega]
     have hiI : 0 ≤ (i : Int) := by omega
     have hik : i < k := by omega
     obtain ⟨t, ht⟩ := nat_var (N / 2 ^ (i + 1))
     rw [← ht] at hX
     have hb := HBIT.out i hik
     have hstep : N / 2 ^ i = 2 * t + N / 2 ^ i % 2 := by
       rw [ht, Nat.pow_succ, ← Nat.div_div_eq_div_mul]
       omega
     rw [← hb] at hstep
     obtain ⟨mm, hmm⟩ := nat_var (min i 63)
     rw [← hmm] at hb hstep
     have hm63 : (mm : Int) ≤ 63 := by omega
     have hm64 : (mm : Int) < 64 := by omega
     have hm0 : 0 ≤ (mm : Int) := by omega
     have HMM : Hid ((mm : Int) = if (63 : Int) < (i : Int) then 63 else (i : Int)) := Lib.hid (by split <;> omega)
     have hdiv : (nc : Int) / 2 ^ mm = ((nc / 2 ^ mm : Nat) : Int) := by simp
     have hq := mask64 (nc / 2 ^ mm) 1 (Nat.lt_of_le_of_lt (Nat.div_le_self _ _) hncl) (by decide) 1 rfl
     rw [← hdiv, Nat.pow_one] at hq
     have hbl : nc / 2 ^ mm % 2 < 2 := Nat.mod_lt _ (by decide)
     have hX2 := Lib.hid (pow_two_mod A t)
     have HSTEP := Lib.hid hstep
     clear hstep hdiv ht hb hmm
     generalize nc / 2 ^ mm % 2 = bt at *
     have hw1 : IntKind.i64.wrap ((i : Int) - 1) = (i : Int) - 1 := by rw [IntWalk.i64_in _ (by omega)]
     by_cases hb1 : bt = 1
     · subst hb1
       have hX3 := Lib.hid (pow_one_mod A (2 * t))
       rw [show ((1 : Nat) : Int) = 1 from rfl] at hq
       go_wp2_with (first
         | (refine wpList_load_arr rfl 51 (.tmp 9) rfl 4 arrE hX rfl (by omega) ?_; simp only [Nat.zero_add])
         | (refine wpList_load_arr rfl 51 (.tmp 9) rfl 4 arrE hX7 rfl (by omega) ?_; simp only [Nat.zero_add])
         | (refine wpList_load_arr rfl 51 (.tmp 5) rfl 4 arrE hA7 rfl (by omega) ?_; simp only [Nat.zero_add])
         | (refine wpList_lesser rfl (.tmp 24) (.const (.int .i64 63)) rfl (m := (mm : Int)) rfl rfl HMM.out ?_)
         | (go_at_call 62
            first
              | (have hgo := hX.lt; refine (mul_any _ _ _ (mod_p_lt (A ^ t)) (mod_p_lt (A ^ t))).mono ?_; rintro e w5 ⟨rfl, hb5⟩; unfold mulP; rw [hX2.out]
                 have hX5 := hX.of_block (hb5.block _ hX.lt)
                 have hA5 := hA.of_block (hb5.block _ hA.lt)
                 have hR5 := hR.of_block (hb5.block _ hR.lt)
                 have hB5 := hbel.trans (hb5.mono (HGS.out _ hbel))
                 clear hX hA hR hbel hb5)
              | (have hgo2 := hX7.lt; refine (mul_any _ _ _ (mod_p_lt (A ^ (2 * t))) HA.out).mono ?_; rintro e w8 ⟨rfl, hb8⟩; unfold mulP; rw [hX3.out]
                 have hX8 := hX7.of_block (hb8.block _ hX7.lt)
                 have hA8 := hA7.of_block (hb8.block _ hA7.lt)
                 have hR8 := hR7.of_block (hb8.block _ hR7.lt)
                 have hB8 := hB7.trans (hb8.mono (HGS.out _ hB7))
                 clear hX7 hA7 hR7 hB7 hb8))
         | (refine wpList_store_arr rfl 51 (.tmp 9) (.tmp 21) rfl 4 arrE hX5 rfl rfl (by omega) (fun _ _ => rfl) ?_; intro w7 hr7 hg7 hs7
            have hX7 : w7.rowIs g2 51 4 (ewF (A ^ (2 * t) % p25)) := hr7.congr fun i hi => by unfold putN; rw [if_pos (by omega), Nat.sub_zero]
            have hA7 := gb_rowIs hA5 hg7 n02
            have hR7 := gb_rowIs hR5 hg7 n12
            have hB7 := hB5.grown hg7 (HGS.out _ hB5) (by intro k hk; cases hk; exact l2)
            clear hX5 hA5 hR5 hB5 hr7 hg7 hs7)
         | (refine wpList_store_arr rfl 51 (.tmp 9) (.tmp 32) rfl 4 arrE hX8 rfl rfl (by omega) (fun _ _ => rfl) ?_; intro w9 hr9 hg9 hs9
            have hX9 : w9.rowIs g2 51 4 (ewF (A ^ (2 * t + 1) % p25)) := hr9.congr fun i hi => by unfold putN; rw [if_pos (by omega), Nat.sub_zero]
            have hA9 := gb_rowIs hA8 hg9 n02
            have hR9 := gb_rowIs hR8 hg9 n12
            have hB9 := hB8.grown hg9 (HGS.out _ hB8) (by intro k hk; cases hk; exact l2)
            clear hX8 hA8 hR8 hB8 hr9 hg9 hs9))
       go_roundw
       case rel => exact ⟨i, by omega, by first | rfl | go_num, by rw [HSTEP.out]; exact hX9, hA9, hR9, hB9⟩
       case measure => simp [intOf]
     · have hb0 : bt = 0 := by omega
       subst hb0
       rw [show ((0 : Nat) : Int) = 0 from rfl] at hq
       go_wp2_with (first
         | (refine wpList_load_arr rfl 51 (.tmp 9) rfl 4 arrE hX rfl (by omega) ?_; simp only [Nat.zero_add])
         | (refine wpList_lesser rfl (.tmp 24) (.const (.int .i64 63)) rfl (m := (mm : Int)) rfl rfl HMM.out ?_)
         | (go_at_call 62
            have hgo := hX.lt; refine (mul_any _ _ _ (mod_p_lt (A ^ t)) (mod_p_lt (A ^ t))).mono ?_; rintro e w5 ⟨rfl, hb5⟩; unfold mulP; rw [hX2.out]
            have hX5 := hX.of_block (hb5.block _ hX.lt)
            have hA5 := hA.of_block (hb5.block _ hA.lt)
            have hR5 := hR.of_block (hb5.block _ hR.lt)
            have hB5 := hbel.trans (hb5.mono (HGS.out _ hbel))
            clear hX hA hR hbel hb5)
         | (refine wpList_store_arr rfl 51 (.tmp 9) (.tmp 21) rfl 4 arrE hX5 rfl rfl (by omega) (fun _ _ => rfl) ?_; intro w7 hr7 hg7 hs7
            have hX7 : w7.rowIs g2 51 4 (ewF (A ^ (2 * t) % p25)) := hr7.congr fun i hi => by unfold putN; rw [if_pos (by omega), Nat.sub_zero]
            have hA7 := gb_rowIs hA5 hg7 n02
            have hR7 := gb_rowIs hR5 hg7 n12
            have hB7 := hB5.grown hg7 (HGS.out _ hB5) (by intro k hk; cases hk; exact l2)
            clear hX5 hA5 hR5 hB5 hr7 hg7 hs7))
       go_roundw
       case rel => exact ⟨i, by omega, by first | rfl | go_num, by rw [HSTEP.out]; exact hX7, hA7, hR7, hB7⟩
       case measure => simp [intOf]
theorem often_inv (A : Nat) (w : World) (hA : A < p25) : Calls Tryz.prog 109 #[.func (.func 62) #[] #[], .agg (arrOf 4 (ewF A)), .int .i64 255, .int .u64 21] w fun e w' => e = .returned (.agg (arrOf 4 (ewF (invP A)))) ∧ Below w.heap.size w w' :=
 often_any A 254 21 (p25 - 2) 255 21 w rfl rfl hA (by decide) (by decide) (by decide) (by decide) (by decide +kernel) (by decide +kernel)
theorem often_r1 (A : Nat) (w : World) (hA : A < p25) : Calls Tryz.prog 109 #[.func (.func 62) #[] #[], .agg (arrOf 4 (ewF A)), .int .i64 252, .int .u64 2] w fun e w' => e = .returned (.agg (arrOf 4 (ewF (A ^ (t25 + 1) % p25)))) ∧ Below w.heap.size w w' :=
 often_any A 251 2 (t25 + 1) 252 2 w rfl rfl hA (by decide) (by decide) (by decide) (by decide) (by decide +kernel) (by decide +kernel)
theorem often_r2 (w : World) : Calls Tryz.prog 109 #[.func (.func 62) #[] #[], .agg (arrOf 4 (ewF 2)), .int .i64 253, .int .u64 5] w fun e w' => e = .returned (.agg (arrOf 4 (ewF (2 ^ (2 * t25 + 1) % p25)))) ∧ Below w.heap.size w w' :=
 often_any 2 252 5 (2 * t25 + 1) 253 5 w rfl rfl (by decide +kernel) (by decide) (by decide) (by decide) (by decide) (by decide +kernel) (by decide +kernel)
set_option maxHeartbeats 1000000 in
theorem inv_any (A : Nat) (w : World) (hA : A < p25) : Calls Tryz.prog 61 #[.agg (arrOf 4 (ewF A))] w fun e w' => e = .returned (.agg (arrOf 4 (ewF (invP A)))) ∧ Below w.heap.size w w' := by
 obtain ⟨w2, hw2, hrA, hrR, hbel, hsz⟩ := rowsW2 w (ewF A) 51 51
 have HGS : Hid (∀ wq : World, Below w.heap.size w wq → w.heap.size ≤ wq.heap.size) := Lib.hid fun wq h => h.size
 have l1 : w.heap.size ≤ w.heap.size + 1 := by omega
 have HO := Lib.hid fun w => often_inv A w hA
 generalize invP A = T at *
 clear hsz hA
 subst hw2
 go_enter Tryz.func61, Tryz.ntmps61
 go_wp2_with (first
   | refine wpList_alloc_arr rfl 51 rfl (arrOf 4 (u64f fun _ => 0)) zeroE ?_
   | (refine wpList_load_arr rfl 51 (.tmp 1) rfl 4 arrE hrA rfl (by omega) ?_; simp only [Nat.zero_add, World.size_alloc])
   | (go_at_call 109; refine (HO.out _).mono ?_; rintro e w5 ⟨rfl, hb5⟩
      have hR5 := hrR.of_block (hb5.block _ hrR.lt)
      have hB5 := hbel.trans (hb5.mono (HGS.out _ hbel))
      clear hrA hrR hbel hb5)
   | (refine wpList_store_arr rfl 51 (.tmp 2) (.tmp 4) rfl 4 arrE hR5 rfl rfl (by omega) (fun _ _ => rfl) ?_; intro wb hrb hgb hsb))
 refine ret_cell_arr rfl arrE hrb rfl (by omega) rfl ⟨?_, hB5.grown hgb (HGS.out _ hB5) (by intro k hk; cases hk; exact l1)⟩
 rw [agg_putW]
theorem pick_even (σ : Nat) : (if decide (σ % 2 = 1) = true then oppP σ else σ) = evenOf p25 σ := by
 unfold evenOf
 by_cases h : σ % 2 = 1
 · rw [if_pos h, if_pos (decide_eq_true h), oppP_eq]
 · rw [if_neg h, if_neg (by rw [decide_eq_true_eq]; exact h)]
theorem pick_even_any (σ : Nat) (w : World) : Calls Tryz.prog 89 #[.bool (decide (σ % 2 = 1)), .agg (arrOf 4 (ewF (oppP σ))), .agg (arrOf 4 (ewF σ))] w fun e w' => e = .returned (.agg (arrOf 4 (ewF (evenOf p25 σ)))) ∧ Below w.heap.size w w' := by
 have h := pick_any (decide (σ % 2 = 1)) (oppP σ) σ w
 rwa [pick_even] at h
set_option maxHeartbeats 4000000 in
theorem root_any (A : Nat) (w : World) (hA : A < p25) : Calls Tryz.prog 120 #[.agg (arrOf 4 (ewF A))] w fun e w' =>
   e = .returned (.tuple #[.agg (arrOf 4 (ewF ((rootL p25 t25 A).getD 0))), .int .i64 (rootE (rootL p25 t25 A))]) ∧ Below w.heap.size w w' := by
 obtain ⟨w2, hw2, hrA, hrR, hbel, hsz⟩ := rowsW2 w (ewF A) 51 51
 have HGS0 : Hid (∀ wq : World, Below w.heap.size w wq → w.heap.size ≤ wq.heap.size) := Lib.hid fun wq h => h.size
 have hAp := hA
 have HO := Lib.hid fun w => often_r1 A w hA
 obtain ⟨ρ, hρ⟩ : ∃ ρ, ρ = A ^ (t25 + 1) % p25 := ⟨_, rfl⟩
 have hρp : ρ < p25 := by rw [hρ]; exact mod_p_lt _
 have hrC : rootC p25 t25 A = if mulP ρ ρ = A then ρ else ρ * (2 ^ (2 * t25 + 1) % p25) % p25 := by rw [hρ]; rfl
 have HRC := Lib.hid hrC
 rw [← hρ] at HO
 have l1 : w.heap.size ≤ w.heap.size + 1 := by omega
 clear hsz hA hρ hrC
 subst hw2
 go_enter Tryz.func120, Tryz.ntmps120
 go_wp2_with (first
   | (refine wpList_alloc_arr rfl 51 rfl (arrOf 4 (u64f fun _ => 0)) zeroE ?_; try simp only [World.size_alloc])
   | (refine wpList_load_arr rfl 51 (.tmp 1) rfl 4 arrE hrA rfl (by omega) ?_; simp only [Nat.zero_add])
   | (go_at_call 109; refine (HO.out _).mono ?_; rintro e w5 ⟨rfl, hb5⟩
      have hA5 := hrA.of_block (hb5.block _ hrA.lt)
      have hR5 := hrR.of_block (hb5.block _ hrR.lt)
      have hB5 := hbel.trans (hb5.mono (HGS0.out _ hbel))
      have hlA := hA5.lt
      have hlR := hR5.lt
      have hA6 := hA5.alloc (.cells (arrOf 4 (u64f fun _ => 0)) 51)
      have hR6 := hR5.alloc (.cells (arrOf 4 (u64f fun _ => 0)) 51)
      have hX6 := rowIs_arr w5 4 (u64f fun _ => 0) 51
      have hB6 := hB5.alloc (HGS0.out _ hB5) (.cells (arrOf 4 (u64f fun _ => 0)) 51)
      clear hrA hrR hbel hb5 hA5 hR5)
   | (refine wpList_store_arr rfl 51 (.tmp 4) (.tmp 6) rfl 4 arrE hX6 rfl rfl (by omega) (fun _ _ => rfl) ?_; intro w7 hr7 hg7 hs7
      have hX : w7.rowIs w5.heap.size 51 4 (ewF ρ) := hr7.congr fun i hi => by unfold putN; rw [if_pos (by omega), Nat.sub_zero]
      have hAr := gb_rowIs hA6 hg7 (Nat.ne_of_lt hlA)
      have hRr := gb_rowIs hR6 hg7 (Nat.ne_of_lt hlR)
      have hBel := hB6.grown hg7 (HGS0.out _ hB6) (by intro k hk; cases hk; exact HGS0.out _ hB5)
      clear hA6 hR6 hX6 hB6 hr7 hg7 hs7))
 generalize hg0 : w.heap.size = g0 at *
 generalize hg1 : g0 + 1 = g1 at *
 generalize w5.heap.size = y at *
 have HG := Lib.hid hg0
 have HGS : Hid (∀ wq : World, Below g0 w wq → g0 ≤ wq.heap.size) := Lib.hid fun wq h => by rw [← HG.out]; exact h.size
 have hyg0 : g0 ≠ y := Nat.ne_of_lt hlA
 have hyg1 : g1 ≠ y := Nat.ne_of_lt hlR
 have hlyg : g0 ≤ y := Nat.le_of_lt hlA
 clear hg0 hg1 HGS0 hB5 hlA hlR
 refine wp_region_lint (.rd 0 (.rd 1 (.rd 3 (.wr 2 (.wr 4 (.rd 5 .done)))))) (by kernel_rfl) (by kernel_rfl) (by decide) (by kernel_rfl) (fun d _ _ _ _ h => by cases d <;> exact h) ?_
 replace hX := World.rowIs.drew hX
 replace hAr := World.rowIs.drew hAr
 replace hRr := World.rowIs.drew hRr
 replace hBel := Below.drew hBel
 refine lint_pure 7 (Op.load 51 (.tmp 4)) _ (.agg (arrOf 4 fun i => ewF ρ (0 + i))) rfl rfl rfl rfl rfl (fun w0 hb0 => by exact exec_load_arr _ _ _ _ rfl arrE (hX.of_block (hb0.block _ hX.lt)) (by omega)) ?_
 simp only [Act.put, List.setIfInBounds_toArray, List.set_cons_zero, List.set_cons_succ, Nat.zero_add]
 refine lint_pure 8 (Op.load 51 (.tmp 4)) _ (.agg (arrOf 4 fun i => ewF ρ (0 + i))) rfl rfl rfl rfl rfl (fun w0 hb0 => by exact exec_load_arr _ _ _ _ rfl arrE (hX.of_block (hb0.block _ hX.lt)) (by omega)) ?_
 simp only [Act.put, List.setIfInBounds_toArray, List.set_cons_zero, List.set_cons_succ, Nat.zero_add]
 refine lint_pure 10 (Op.load 51 (.tmp 1)) _ (.agg (arrOf 4 fun i => ewF A (0 + i))) rfl rfl rfl rfl rfl (fun w0 hb0 => by exact exec_load_arr _ _ _ _ rfl arrE (hAr.of_block (hb0.block _ hAr.lt)) (by omega)) ?_
 simp only [Act.put, List.setIfInBounds_toArray, List.set_cons_zero, List.set_cons_succ, Nat.zero_add]
 refine stp_fn 9 62 #[Operand.tmp 7, Operand.tmp 8] #[51, 51] _ (mul_any ρ ρ _ hρp hρp) rfl rfl rfl rfl Tryz.func62 (by kernel_rfl) (by kernel_rfl) (by go_simp) ?_
 rintro e wm ⟨rfl, hbm⟩
 replace hX := World.rowIs.of_block hX (hbm.block _ (World.rowIs.lt hX))
 replace hAr := World.rowIs.of_block hAr (hbm.block _ (World.rowIs.lt hAr))
 replace hRr := World.rowIs.of_block hRr (hbm.block _ (World.rowIs.lt hRr))
 replace hBel := Below.trans hBel (hbm.mono (HGS.out _ hBel))
 refine ⟨_, rfl, hbm, ?_⟩
 clear hbm
 simp only [Act.put, List.setIfInBounds_toArray, List.set_cons_zero, List.set_cons_succ, Nat.zero_add]
 refine stp_fn 11 88 #[Operand.tmp 9, Operand.tmp 10] #[51, 51] _ (same_any (mulP ρ ρ) A _ (mod_p_lt _) hAp) rfl rfl rfl rfl Tryz.func88 (by kernel_rfl) (by kernel_rfl) (by go_simp) ?_
 rintro e wn ⟨rfl, hbm⟩
 replace hX := World.rowIs.of_block hX (hbm.block _ (World.rowIs.lt hX))
 replace hAr := World.rowIs.of_block hAr (hbm.block _ (World.rowIs.lt hAr))
 replace hRr := World.rowIs.of_block hRr (hbm.block _ (World.rowIs.lt hRr))
 replace hBel := Below.trans hBel (hbm.mono (HGS.out _ hBel))
 refine ⟨_, rfl, hbm, ?_⟩
 clear hbm
 simp only [Act.put, List.setIfInBounds_toArray, List.set_cons_zero, List.set_cons_succ, Nat.zero_add]
 refine lint_pure 12 (Op.unOp UnOp.not 4 (Operand.tmp 11)) _ (.bool (!decide (mulP ρ ρ = A))) rfl rfl rfl rfl rfl (fun w0 hb0 => by unfold mkOp; go_simp; all_goals (with_reducible rfl)) ?_
 simp only [Act.put, List.setIfInBounds_toArray, List.set_cons_zero, List.set_cons_succ, Nat.zero_add]
 refine lint_end ?_
 by_cases c1 : mulP ρ ρ = A
 focus
   rw [decide_eq_true c1]
   have hrC : rootC p25 t25 A = ρ := by rw [HRC.out, if_pos c1]
   obtain ⟨σ, hσ⟩ : ∃ σ, σ = ρ := ⟨_, rfl⟩
   rw [← hσ] at hX hρp hrC
   have hσp := hρp
   have HR := Lib.hid hrC
   clear hσ hρp hrC HRC c1
   go_wp2
 rotate_left
 focus
   rw [decide_eq_false c1]
   have hrC : rootC p25 t25 A = ρ * (2 ^ (2 * t25 + 1) % p25) % p25 := by rw [HRC.out, if_neg c1]
   clear HRC c1
   go_wp2
   replace hX := World.rowIs.drew hX
   replace hAr := World.rowIs.drew hAr
   replace hRr := World.rowIs.drew hRr
   replace hBel := Below.drew hBel
   refine wp_region_lins [(0, some [3, 4]), (1, none), (2, none), (3, none), (4, none)] (fun c w' => w'.rowIs y 51 4 (ewF ρ)) (by kernel_rfl) (by kernel_rfl) (by decide) (by kernel_rfl) (fun d _ _ _ _ h => by cases d <;> exact h) (fun c hc => hX) ?_
   refine lins_read 13 (Op.load 51 (Operand.tmp 4)) 51 (.agg (arrOf 4 fun i => ewF ρ (0 + i))) rfl rfl rfl rfl rfl (fun w0 hw0 => by exact exec_load_arr _ _ _ _ rfl arrE (hw0 3 (by simp)) (by omega)) ?_
   simp only [Act.put, List.setIfInBounds_toArray, List.set_cons_zero, List.set_cons_succ, Nat.zero_add]
   refine lins_fn (some 14) 57 #[Operand.const (Value.int IntKind.u64 2)] #[45] _ (small_any 2 _ (by decide)) rfl rfl rfl rfl Tryz.func57 (by kernel_rfl) (by kernel_rfl) (by go_simp) ?_
   rintro e wk0 ⟨rfl, hk0⟩
   replace hX := World.rowIs.of_block hX (hk0.block _ (World.rowIs.lt hX))
   replace hAr := World.rowIs.of_block hAr (hk0.block _ (World.rowIs.lt hAr))
   replace hRr := World.rowIs.of_block hRr (hk0.block _ (World.rowIs.lt hRr))
   replace hBel := Below.trans hBel (hk0.mono (HGS.out _ hBel))
   refine ⟨_, rfl, fun c w' => w'.rowIs y 51 4 (ewF ρ), fun c hc => ⟨hX, fun w6 h6 => h6⟩, ?_⟩
   simp only [Act.put, List.setIfInBounds_toArray, List.set_cons_zero, List.set_cons_succ, Nat.zero_add]
   refine lins_fn (some 15) 109 #[Operand.func 62, Operand.tmp 14, Operand.const (Value.int IntKind.i64 253), Operand.const (Value.int IntKind.u64 5)] #[132, 51, 3, 45] _ (often_r2 _) rfl rfl rfl rfl Tryz.func109 (by kernel_rfl) (by kernel_rfl) (by go_simp) ?_
   rintro e wk1 ⟨rfl, hk1⟩
   replace hX := World.rowIs.of_block hX (hk1.block _ (World.rowIs.lt hX))
   replace hAr := World.rowIs.of_block hAr (hk1.block _ (World.rowIs.lt hAr))
   replace hRr := World.rowIs.of_block hRr (hk1.block _ (World.rowIs.lt hRr))
   replace hBel := Below.trans hBel (hk1.mono (HGS.out _ hBel))
   refine ⟨_, rfl, fun c w' => w'.rowIs y 51 4 (ewF ρ), fun c hc => ⟨hX, fun w6 h6 => h6⟩, ?_⟩
   simp only [Act.put, List.setIfInBounds_toArray, List.set_cons_zero, List.set_cons_succ, Nat.zero_add]
   refine lins_fn (some 16) 62 #[Operand.tmp 13, Operand.tmp 15] #[51, 51] _ (mul_any ρ (2 ^ (2 * t25 + 1) % p25) _ hρp (mod_p_lt _)) rfl rfl rfl rfl Tryz.func62 (by kernel_rfl) (by kernel_rfl) (by go_simp) ?_
   rintro e wk2 ⟨rfl, hk2⟩
   replace hX := World.rowIs.of_block hX (hk2.block _ (World.rowIs.lt hX))
   replace hAr := World.rowIs.of_block hAr (hk2.block _ (World.rowIs.lt hAr))
   replace hRr := World.rowIs.of_block hRr (hk2.block _ (World.rowIs.lt hRr))
   replace hBel := Below.trans hBel (hk2.mono (HGS.out _ hBel))
   refine ⟨_, rfl, fun c w' => w'.rowIs y 51 4 (ewF ρ), fun c hc => ⟨hX, fun w6 h6 => h6⟩, ?_⟩
   simp only [Act.put, List.setIfInBounds_toArray, List.set_cons_zero, List.set_cons_succ, Nat.zero_add]
   refine lins_store_arr (k := 4) (off := 0) 51 (.tmp 4) (.tmp 16) rfl rfl rfl rfl hX rfl rfl arrE (by omega) (fun _ _ => rfl) ?_
   intro wk5 hr5 hg5 hs5
   refine ⟨fun _ _ => True, fun c hc => (by cases hc), ?_⟩
   refine lins_end ?_
   obtain ⟨σ, hσ⟩ : ∃ σ, σ = ρ * (2 ^ (2 * t25 + 1) % p25) % p25 := ⟨_, rfl⟩
   replace hX : wk5.rowIs y 51 4 (ewF σ) := hr5.congr fun i hi => by unfold putN; rw [if_pos (by omega), Nat.sub_zero, hσ]; rfl
   replace hAr := gb_rowIs hAr hg5 hyg0
   replace hRr := gb_rowIs hRr hg5 hyg1
   replace hBel := Below.grown hBel hg5 (HGS.out _ hBel) (by intro k hk; cases hk; exact hlyg)
   rw [← hσ] at hrC
   have hσp : σ < p25 := by rw [hσ]; exact mod_p_lt _
   have HR := Lib.hid hrC
   clear hr5 hg5 hs5 hσ hrC hk0 hk1 hk2
   go_wp2
 rotate_left
 all_goals
   refine wp_region_lint (.rd 0 (.rd 1 (.rd 3 (.wr 2 (.wr 4 (.rd 5 .done)))))) (by kernel_rfl) (by kernel_rfl) (by decide) (by kernel_rfl) (fun d _ _ _ _ h => by cases d <;> exact h) ?_
   replace hX := World.rowIs.drew hX
   replace hAr := World.rowIs.drew hAr
   replace hRr := World.rowIs.drew hRr
   replace hBel := Below.drew hBel
   refine lint_pure 17 (Op.load 51 (.tmp 4)) _ (.agg (arrOf 4 fun i => ewF σ (0 + i))) rfl rfl rfl rfl rfl (fun w0 hb0 => by exact exec_load_arr _ _ _ _ rfl arrE (hX.of_block (hb0.block _ hX.lt)) (by omega)) ?_
   simp only [Act.put, List.setIfInBounds_toArray, List.set_cons_zero, List.set_cons_succ, Nat.zero_add]
   refine lint_pure 18 (Op.load 51 (.tmp 4)) _ (.agg (arrOf 4 fun i => ewF σ (0 + i))) rfl rfl rfl rfl rfl (fun w0 hb0 => by exact exec_load_arr _ _ _ _ rfl arrE (hX.of_block (hb0.block _ hX.lt)) (by omega)) ?_
   simp only [Act.put, List.setIfInBounds_toArray, List.set_cons_zero, List.set_cons_succ, Nat.zero_add]
   refine lint_pure 20 (Op.load 51 (.tmp 1)) _ (.agg (arrOf 4 fun i => ewF A (0 + i))) rfl rfl rfl rfl rfl (fun w0 hb0 => by exact exec_load_arr _ _ _ _ rfl arrE (hAr.of_block (hb0.block _ hAr.lt)) (by omega)) ?_
   simp only [Act.put, List.setIfInBounds_toArray, List.set_cons_zero, List.set_cons_succ, Nat.zero_add]
   refine stp_fn 19 62 #[Operand.tmp 17, Operand.tmp 18] #[51, 51] _ (mul_any σ σ _ hσp hσp) rfl rfl rfl rfl Tryz.func62 (by kernel_rfl) (by kernel_rfl) (by go_simp) ?_
   rintro e wm ⟨rfl, hbm⟩
   replace hX := World.rowIs.of_block hX (hbm.block _ (World.rowIs.lt hX))
   replace hAr := World.rowIs.of_block hAr (hbm.block _ (World.rowIs.lt hAr))
   replace hRr := World.rowIs.of_block hRr (hbm.block _ (World.rowIs.lt hRr))
   replace hBel := Below.trans hBel (hbm.mono (HGS.out _ hBel))
   refine ⟨_, rfl, hbm, ?_⟩
   clear hbm
   simp only [Act.put, List.setIfInBounds_toArray, List.set_cons_zero, List.set_cons_succ, Nat.zero_add]
   refine stp_fn 21 88 #[Operand.tmp 19, Operand.tmp 20] #[51, 51] _ (same_any (mulP σ σ) A _ (mod_p_lt _) hAp) rfl rfl rfl rfl Tryz.func88 (by kernel_rfl) (by kernel_rfl) (by go_simp) ?_
   rintro e wn ⟨rfl, hbm⟩
   replace hX := World.rowIs.of_block hX (hbm.block _ (World.rowIs.lt hX))
   replace hAr := World.rowIs.of_block hAr (hbm.block _ (World.rowIs.lt hAr))
   replace hRr := World.rowIs.of_block hRr (hbm.block _ (World.rowIs.lt hRr))
   replace hBel := Below.trans hBel (hbm.mono (HGS.out _ hBel))
   refine ⟨_, rfl, hbm, ?_⟩
   clear hbm
   simp only [Act.put, List.setIfInBounds_toArray, List.set_cons_zero, List.set_cons_succ, Nat.zero_add]
   refine lint_pure 22 (Op.unOp UnOp.not 4 (Operand.tmp 21)) _ (.bool (!decide (mulP σ σ = A))) rfl rfl rfl rfl rfl (fun w0 hb0 => by unfold mkOp; go_simp; all_goals (with_reducible rfl)) ?_
   simp only [Act.put, List.setIfInBounds_toArray, List.set_cons_zero, List.set_cons_succ, Nat.zero_add]
   refine lint_end ?_
   by_cases c2 : mulP σ σ = A
   · rw [decide_eq_true c2]
     have hroot : rootL p25 t25 A = some (evenOf p25 σ) := by unfold rootL; rw [HR.out]; exact if_pos c2
     have HROOT := Lib.hid hroot
     clear hroot c2 HR
     go_wp2
     replace hX := World.rowIs.drew hX
     replace hRr := World.rowIs.drew hRr
     replace hBel := Below.drew hBel
     refine wp_region_lins [(0, some [1, 6]), (2, some [3, 6]), (4, some [5, 6]), (1, none), (3, none), (5, none), (6, none), (7, some [])] (fun c w' => w'.rowIs y 51 4 (ewF σ)) (by kernel_rfl) (by kernel_rfl) (by decide) (by kernel_rfl) (fun d _ _ _ _ h => by cases d <;> exact h) (fun c hc => hX) ?_
     refine lins_read 24 (Op.load 51 (Operand.tmp 4)) 51 (.agg (arrOf 4 fun i => ewF σ (0 + i))) rfl rfl rfl rfl rfl (fun w0 hw0 => by exact exec_load_arr _ _ _ _ rfl arrE (hw0 1 (by simp)) (by omega)) ?_
     simp only [Act.put, List.setIfInBounds_toArray, List.set_cons_zero, List.set_cons_succ, Nat.zero_add]
     refine lins_read 26 (Op.load 51 (Operand.tmp 4)) 51 (.agg (arrOf 4 fun i => ewF σ (0 + i))) rfl rfl rfl rfl rfl (fun w0 hw0 => by exact exec_load_arr _ _ _ _ rfl arrE (hw0 3 (by simp)) (by omega)) ?_
     simp only [Act.put, List.setIfInBounds_toArray, List.set_cons_zero, List.set_cons_succ, Nat.zero_add]
     refine lins_read 28 (Op.load 51 (Operand.tmp 4)) 51 (.agg (arrOf 4 fun i => ewF σ (0 + i))) rfl rfl rfl rfl rfl (fun w0 hw0 => by exact exec_load_arr _ _ _ _ rfl arrE (hw0 5 (by simp)) (by omega)) ?_
     simp only [Act.put, List.setIfInBounds_toArray, List.set_cons_zero, List.set_cons_succ, Nat.zero_add]
     refine lins_fn (some 25) 64 #[Operand.tmp 24] #[51] _ (odd_any σ _) rfl rfl rfl rfl Tryz.func64 (by kernel_rfl) (by kernel_rfl) (by go_simp) ?_
     rintro e wj0 ⟨rfl, hj0⟩
     replace hX := World.rowIs.of_block hX (hj0.block _ (World.rowIs.lt hX))
     replace hRr := World.rowIs.of_block hRr (hj0.block _ (World.rowIs.lt hRr))
     replace hBel := Below.trans hBel (hj0.mono (HGS.out _ hBel))
     refine ⟨_, rfl, fun c w' => w'.rowIs y 51 4 (ewF σ), fun c hc => ⟨hX, fun w6 h6 => h6⟩, ?_⟩
     simp only [Act.put, List.setIfInBounds_toArray, List.set_cons_zero, List.set_cons_succ, Nat.zero_add]
     refine lins_fn (some 27) 90 #[Operand.tmp 26] #[51] _ (neg_any σ _ hσp) rfl rfl rfl rfl Tryz.func90 (by kernel_rfl) (by kernel_rfl) (by go_simp) ?_
     rintro e wj1 ⟨rfl, hj1⟩
     replace hX := World.rowIs.of_block hX (hj1.block _ (World.rowIs.lt hX))
     replace hRr := World.rowIs.of_block hRr (hj1.block _ (World.rowIs.lt hRr))
     replace hBel := Below.trans hBel (hj1.mono (HGS.out _ hBel))
     refine ⟨_, rfl, fun c w' => w'.rowIs y 51 4 (ewF σ), fun c hc => ⟨hX, fun w6 h6 => h6⟩, ?_⟩
     simp only [Act.put, List.setIfInBounds_toArray, List.set_cons_zero, List.set_cons_succ, Nat.zero_add]
     refine lins_fn (some 29) 89 #[Operand.tmp 25, Operand.tmp 27, Operand.tmp 28] #[4, 51, 51] _ (pick_even_any σ _) rfl rfl rfl rfl Tryz.func89 (by kernel_rfl) (by kernel_rfl) (by go_simp) ?_
     rintro e wj2 ⟨rfl, hj2⟩
     replace hX := World.rowIs.of_block hX (hj2.block _ (World.rowIs.lt hX))
     replace hRr := World.rowIs.of_block hRr (hj2.block _ (World.rowIs.lt hRr))
     replace hBel := Below.trans hBel (hj2.mono (HGS.out _ hBel))
     refine ⟨_, rfl, fun c w' => w'.rowIs y 51 4 (ewF σ), fun c hc => ⟨hX, fun w6 h6 => h6⟩, ?_⟩
     simp only [Act.put, List.setIfInBounds_toArray, List.set_cons_zero, List.set_cons_succ, Nat.zero_add]
     refine lins_store_arr (k := 4) (off := 0) 51 (.tmp 2) (.tmp 29) rfl rfl rfl rfl hRr rfl rfl arrE (by omega) (fun _ _ => rfl) ?_
     intro wz hrz hgz hsz
     refine ⟨fun _ _ => True, fun c hc => (by cases hc), ?_⟩
     refine lins_read 3 (Op.assign (Operand.const (Value.int IntKind.i64 0))) 26 _ rfl rfl rfl rfl rfl (fun w0 hw0 => by unfold mkOp; go_simp; all_goals (with_reducible rfl)) ?_
     simp only [Act.put, List.setIfInBounds_toArray, List.set_cons_zero, List.set_cons_succ, Nat.zero_add]
     refine lins_end ?_
     go_wp2
     refine ret_cell_arr_tmp rfl arrE hrz rfl rfl (by omega) rfl ⟨?_, by rw [HG.out]; exact Below.grown hBel hgz (HGS.out _ hBel) (by intro k hk; cases hk; exact l1)⟩
     rw [agg_putW, HROOT.out]
     rfl
   · rw [decide_eq_false c2]
     have hroot : rootL p25 t25 A = none := by unfold rootL; rw [HR.out]; exact if_neg c2
     have HROOT := Lib.hid hroot
     clear hroot c2 HR
     go_wp2_with (first
       | refine wpList_build_arr rfl 51 _ rfl (arrOf 4 (ewF 0)) (by kernel_rfl) ?_
       | (refine wpList_store_arr rfl 51 (.tmp 2) (.tmp 23) rfl 4 arrE hRr rfl rfl (by omega) (fun _ _ => rfl) ?_; intro wz hrz hgz hsz))
     refine ret_cell_arr_tmp rfl arrE hrz rfl rfl (by omega) rfl ⟨?_, by rw [HG.out]; exact Below.grown hBel hgz (HGS.out _ hBel) (by intro k hk; cases hk; exact l1)⟩
     rw [agg_putW, HROOT.out]
     rfl
end Go.Proofs.YtonhpmaiagbheaaGreat
