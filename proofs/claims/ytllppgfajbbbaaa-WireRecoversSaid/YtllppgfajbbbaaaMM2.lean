/- Texts joined: what they are for stands ahead of each. -/
import Derived.Test.YtllppgfajbbbaaaMM1
import Derived.Recover
import Derived.Defers
import Derived.Laws.Pointers
import Derived.WalkLawsBesides
import Derived.Deep.RegionHeld
set_option linter.unusedSimpArgs false
set_option linter.unusedVariables false

/- WireBack's closures over a reader that is but promised. -/
namespace Go.Proofs.Ytllppgfajbbbaaa
open Go.RowKit Go.Deep
set_option linter.unusedSimpArgs false
set_option linter.unusedVariables false

/-- What is still to come behind the first i items. -/
def itsFrom (L : List It) (i : Nat) (rest : List UInt8) : List UInt8 := ((L.drop i).map itL).flatten ++ rest
theorem itsFrom_succ {L : List It} {i : Nat} (h : i < L.length) (rest : List UInt8) : itsFrom L i rest = itL L[i] ++ itsFrom L (i + 1) rest := by
  unfold itsFrom
  rw [List.drop_eq_getElem_cons h, List.map_cons, List.flatten_cons, List.append_assoc]
theorem itsFrom_all (L : List It) (rest : List UInt8) : itsFrom L L.length rest = rest := by
  unfold itsFrom
  rw [List.drop_length]
  rfl
theorem itsFrom_zero (L : List It) (rest : List UInt8) : itsFrom L 0 rest = (L.map itL).flatten ++ rest := rfl
theorem samO {O O2 G : Nat → Prop} {w wr w4 : World} (h : Sam (fun b => O b ∨ G b) w wr) (k : Sam O2 wr w4) (hO : ∀ b, O2 b → O b ∨ w.heap.size ≤ b) : Sam (fun b => O b ∨ G b) w w4 :=
  ⟨k.os.trans h.os, k.tape.trans h.tape, k.output.trans h.output, Nat.le_trans h.size k.size, fun b hb hn => (k.block b (Nat.lt_of_lt_of_le hb h.size) fun h2 => (hO b h2).elim (fun h => hn (.inl h)) (fun h => by omega)).trans (h.block b hb hn)⟩
theorem samO0 {O O2 : Nat → Prop} {w wr w4 : World} (h : Sam O w wr) (k : Sam O2 wr w4) (hO : ∀ b, O2 b → O b ∨ w.heap.size ≤ b) : Sam O w w4 :=
  ⟨k.os.trans h.os, k.tape.trans h.tape, k.output.trans h.output, Nat.le_trans h.size k.size, fun b hb hn => (k.block b (Nat.lt_of_lt_of_le hb h.size) fun h2 => (hO b h2).elim hn (fun h => by omega)).trans (h.block b hb hn)⟩
section
variable {RdAt : (Nat → Prop) → World → Nat → List UInt8 → Prop} (A : RdApi RdAt)
include A
set_option maxHeartbeats 4000000 in
set_option maxRecDepth 20000 in
theorem back1_any (O : Nat → Prop) (w0 w : World) (r lb sb : Nat) (v : Value) (L : List It) (rest : List UInt8) (hL : Its w0 v L) (hsp : smallP L) (hb0 : Below w0.heap.size w0 w) (hO : ∀ b, O b → w0.heap.size ≤ b) (hlb : ¬ O lb) (r_l : w.rowIs lb 22 1 (fun _ => v)) (hsb : w0.heap.size ≤ sb ∧ ¬ O sb ∧ lb ≠ sb) (r_s : w.rowIs sb 4 1 (fun _ => .bool true)) (hR : RdAt O w r ((L.map itL).flatten ++ rest)) : Calls Try.prog 13 #[.pointer (some ⟨r, 0, none⟩), .pointer (some ⟨lb, 0, none⟩), .pointer (some ⟨sb, 0, none⟩)] w fun e w' => e = .returned (.tuple #[]) ∧ w'.rowIs sb 4 1 (fun _ => .bool true) ∧ ∃ O', RdAt O' w' r rest ∧ Sam (fun b => O b ∨ b = sb) w w' ∧ ∀ b, O' b → O b ∨ w.heap.size ≤ b := by
  have HV := Lib.hid hL
  obtain ⟨a, cap, rfl, h1, h2, h3, h4⟩ := hL
  clear h3 h4
  unfold maxLen at h2
  generalize hn : L.length = N at *
  have HN := Lib.hid hn
  have HSP := Lib.hid hsp
  have HB0 := Lib.hid hb0
  have HO := Lib.hid hO
  have HLB := Lib.hid hlb
  have HS := Lib.hid hsb
  rw [← itsFrom_zero] at hR
  have HR := Lib.hid hR
  have HLBW : Hid (lb < w.heap.size) := Lib.hid r_l.lt
  have HSBW : Hid (sb < w.heap.size) := Lib.hid r_s.lt
  have HLW : Hid (∀ b, O b → b < w.heap.size) := Lib.hid (A.lt O w r _ hR)
  have HOW : Hid (w0.heap.size ≤ w.heap.size) := Lib.hid hb0.size
  have hN2 : N ≤ 2000 := by have := hsp.1; omega
  clear hn hsp hb0 hO hlb hR hsb
  go_enter Try.func13, Try.ntmps13
  go_wp2
  go_loopw [4] (fun iv wr => ∃ (i : Nat) (O2 : Nat → Prop), i ≤ N ∧ iv = .int .i64 (i : Int) ∧ RdAt O2 wr r (itsFrom L i rest) ∧ (∀ b, O2 b → O b ∨ w.heap.size ≤ b) ∧ Sam (fun b => O b ∨ b = sb) w wr ∧ wr.rowIs lb 22 1 (fun _ => .slice a N cap) ∧ wr.rowIs sb 4 1 (fun _ => .bool true)) (fun iv _ => N - (intOf iv).toNat)
  case atStart => exact ⟨0, O, Nat.zero_le _, rfl, HR.out, (fun b h => .inl h), Sam.refl _ _, r_l, r_s⟩
  case round =>
    clear r_l r_s
    obtain ⟨i, O2, hi, rfl, hR, hO2, hs, r_l, r_s⟩ := hrel
    by_cases hlt : i < N
    · have hiI : 0 ≤ (i : Int) ∧ (i : Int) < (N : Int) := by omega
      have hil : i < L.length := by rw [HN.out]; exact hlt
      obtain ⟨bb, off, cap', he, _, _, hbl, hit⟩ := HV.out.open_cons (by rw [HN.out]; omega)
      rw [HN.out] at he
      cases he
      obtain ⟨vb, vl, g_b, g_l, hxn, hcx⟩ := (hit i hil).cells
      have HCX := Lib.hid hcx
      have hxo := HSP.out.2 i hil
      rw [itsFrom_succ hil] at hR
      generalize L[i] = X at *
      have HXO := Lib.hid hxo
      have HXN := Lib.hid hxn
      have HGB := Lib.hid g_b
      have HGL := Lib.hid g_l
      have HI := Lib.hid hlt
      obtain ⟨i1, hi1⟩ := nat_var (i + 1)
      have hwi : IntKind.i64.wrap ((i : Int) + 1) = (i1 : Int) := by rw [IntWalk.i64_in _ (by omega)]; omega
      have HI1 := Lib.hid hi1
      have HRR := Lib.hid hR
      have HO2 := Lib.hid hO2
      have hbr : Below w0.heap.size w0 wr := HB0.out.trans (hs.below (fun b h => h.elim (HO.out b) (fun e => by rw [e]; exact HS.out.1)) HOW.out)
      have HBR := Lib.hid hbr
      have HO3 : Hid (∀ b, O2 b → w0.heap.size ≤ b) := Lib.hid fun b h => (HO2.out b h).elim (HO.out b) (fun h => Nat.le_trans HOW.out h)
      have hlw := r_l.lt
      have HNL : Hid (¬ O2 lb) := Lib.hid fun h => (HO2.out lb h).elim HLB.out (fun h => by have := HLBW.out; omega)
      have HNS : Hid (¬ O2 sb) := Lib.hid fun h => (HO2.out sb h).elim HS.out.2.1 (fun h => by have := HSBW.out; omega)
      have HSS := Lib.hid hs
      have M1 := Lib.hid hlt
      clear hi hlt hil hit hbl hcx hxo hxn g_b g_l hi1 hR hO2 hs hbr hlw
      go_wp2_with (first
        | (refine wpList_loadG 22 (.tmp 1) rfl rfl (.slice (some ⟨bb, off, none⟩) N cap) r_l rfl (by omega) rfl (by kernel_rfl) ?_)
        | (have hgo := M1; clear hgo
           refine wpList_load_cellsW 34 (.tmp 14) rfl rfl 4 arrIt (HCX.out _ HBR.out) rfl ?_
           clear M1)
        | (have hgo := HRR; clear hgo
           go_at_call 14
           refine (read_any A O2 r (itsFrom L (i + 1) rest) X vb vl _ HRR.out (BsK.old HGB.out HBR.out HO3.out) (BssK.old HGL.out HBR.out HO3.out) HXN.out HXO.out).mono ?_
           rintro e w4 ⟨rfl, O4, hR4, s4, hO4⟩
           replace r_l := Sam.row r_l s4 HNL.out
           replace r_s := Sam.row r_s s4 HNS.out
           have HR4 := Lib.hid hR4
           have HO4 : Hid (∀ b, O4 b → O b ∨ w.heap.size ≤ b) := Lib.hid fun b h => (hO4 b h).elim (HO2.out b) (fun h => .inr (Nat.le_trans HSS.out.size h))
           have S4 : Sam (fun b => O b ∨ b = sb) w w4 := samO HSS.out s4 HO2.out
           clear HRR hR4 s4 hO4)
        | (refine wpList_loadG 4 (.tmp 2) rfl rfl (.bool true) r_s rfl (by omega) rfl (by kernel_rfl) ?_)
        | (have hgo := HR4; clear hgo
           refine wpList_storeG 4 (.tmp 2) (.tmp 19) rfl rfl (fun _ => .bool true) r_s rfl rfl (by kernel_rfl) rfl rfl (by omega) (fun j hj => by split <;> rfl) ?_
           intro w5 q5 s5
           have HR5 := Lib.hid (A.stay O4 _ _ _ r _ HR4.out s5 (fun b hb h => by rw [hb] at h; exact (HO4.out sb h).elim HS.out.2.1 (fun h => by have := HSBW.out; omega)))
           replace r_l := Sam.row r_l s5 HS.out.2.2
           replace r_s := q5
           have S5 : Sam (fun b => O b ∨ b = sb) w w5 := S4.trans (s5.mono fun b _ h => .inr h)
           clear HR4 S4 s5 q5))
      go_roundw
      case rel => exact ⟨i + 1, O4, HI.out, by rw [HI1.out], HR5.out, HO4.out, S5, r_l, r_s⟩
      case measure => (have := HI1.out; have := HI.out; simp [intOf]; try omega)
    · obtain rfl : i = N := by omega
      have hiI : ¬ (i : Int) < (i : Int) := by omega
      have HRE : Hid (RdAt O2 wr r rest) := Lib.hid (by
        have h := itsFrom_all L rest
        rw [HN.out] at h
        rw [h] at hR
        exact hR)
      have HO2 := Lib.hid hO2
      have HSS := Lib.hid hs
      clear hi hlt hR hO2 hs
      go_wp2_with (first
        | (refine wpList_loadG 22 (.tmp 1) rfl rfl (.slice a i cap) r_l rfl (by omega) rfl (by kernel_rfl) ?_))
      go_end0
      exact ⟨rfl, r_s, O2, HRE.out, HSS.out, HO2.out⟩
set_option maxHeartbeats 4000000 in
set_option maxRecDepth 20000 in
theorem back2_any (O : Nat → Prop) (w0 w : World) (r lb : Nat) (v : Value) (L : List It) (rest : List UInt8) (hL : Its w0 v L) (hsp : smallP L) (hb0 : Below w0.heap.size w0 w) (hO : ∀ b, O b → w0.heap.size ≤ b) (hlb : ¬ O lb) (r_l : w.rowIs lb 22 1 (fun _ => v)) (hR : RdAt O w r ((L.map itL).flatten ++ rest)) : Calls Try.prog 15 #[.pointer (some ⟨r, 0, none⟩), .pointer (some ⟨lb, 0, none⟩)] w fun e w' => e = .returned (.tuple #[]) ∧ ∃ O', RdAt O' w' r rest ∧ Sam O w w' ∧ ∀ b, O' b → O b ∨ w.heap.size ≤ b := by
  have HV := Lib.hid hL
  obtain ⟨a, cap, rfl, h1, h2, h3, h4⟩ := hL
  clear h3 h4
  unfold maxLen at h2
  generalize hn : L.length = N at *
  have HN := Lib.hid hn
  have HSP := Lib.hid hsp
  have HB0 := Lib.hid hb0
  have HO := Lib.hid hO
  have HLB := Lib.hid hlb
  rw [← itsFrom_zero] at hR
  have HR := Lib.hid hR
  have HLBW : Hid (lb < w.heap.size) := Lib.hid r_l.lt
  have HLW : Hid (∀ b, O b → b < w.heap.size) := Lib.hid (A.lt O w r _ hR)
  have HOW : Hid (w0.heap.size ≤ w.heap.size) := Lib.hid hb0.size
  have hN2 : N ≤ 2000 := by have := hsp.1; omega
  clear hn hsp hb0 hO hlb hR
  go_enter Try.func15, Try.ntmps15
  go_wp2
  go_loopw [3] (fun iv wr => ∃ (i : Nat) (O2 : Nat → Prop), i ≤ N ∧ iv = .int .i64 (i : Int) ∧ RdAt O2 wr r (itsFrom L i rest) ∧ (∀ b, O2 b → O b ∨ w.heap.size ≤ b) ∧ Sam O w wr ∧ wr.rowIs lb 22 1 (fun _ => .slice a N cap)) (fun iv _ => N - (intOf iv).toNat)
  case atStart => exact ⟨0, O, Nat.zero_le _, rfl, HR.out, (fun b h => .inl h), Sam.refl _ _, r_l⟩
  case round =>
    clear r_l
    obtain ⟨i, O2, hi, rfl, hR, hO2, hs, r_l⟩ := hrel
    by_cases hlt : i < N
    · have hiI : 0 ≤ (i : Int) ∧ (i : Int) < (N : Int) := by omega
      have hil : i < L.length := by rw [HN.out]; exact hlt
      obtain ⟨bb, off, cap', he, _, _, hbl, hit⟩ := HV.out.open_cons (by rw [HN.out]; omega)
      rw [HN.out] at he
      cases he
      obtain ⟨vb, vl, g_b, g_l, hxn, hcx⟩ := (hit i hil).cells
      have HCX := Lib.hid hcx
      have hxo := HSP.out.2 i hil
      rw [itsFrom_succ hil] at hR
      generalize L[i] = X at *
      have HXO := Lib.hid hxo
      have HXN := Lib.hid hxn
      have HGB := Lib.hid g_b
      have HGL := Lib.hid g_l
      have HI := Lib.hid hlt
      obtain ⟨i1, hi1⟩ := nat_var (i + 1)
      have hwi : IntKind.i64.wrap ((i : Int) + 1) = (i1 : Int) := by rw [IntWalk.i64_in _ (by omega)]; omega
      have HI1 := Lib.hid hi1
      have HRR := Lib.hid hR
      have HO2 := Lib.hid hO2
      have hbr : Below w0.heap.size w0 wr := HB0.out.trans (hs.below (fun b h => HO.out b h) HOW.out)
      have HBR := Lib.hid hbr
      have HO3 : Hid (∀ b, O2 b → w0.heap.size ≤ b) := Lib.hid fun b h => (HO2.out b h).elim (HO.out b) (fun h => Nat.le_trans HOW.out h)
      have hlw := r_l.lt
      have HNL : Hid (¬ O2 lb) := Lib.hid fun h => (HO2.out lb h).elim HLB.out (fun h => by have := HLBW.out; omega)
      have HSS := Lib.hid hs
      have M1 := Lib.hid hlt
      clear hi hlt hil hit hbl hcx hxo hxn g_b g_l hi1 hR hO2 hs hbr hlw
      go_wp2_with (first
        | (refine wpList_loadG 22 (.tmp 1) rfl rfl (.slice (some ⟨bb, off, none⟩) N cap) r_l rfl (by omega) rfl (by kernel_rfl) ?_)
        | (have hgo := M1; clear hgo
           refine wpList_load_cellsW 34 (.tmp 13) rfl rfl 4 arrIt (HCX.out _ HBR.out) rfl ?_
           clear M1)
        | (have hgo := HRR; clear hgo
           go_at_call 14
           refine (read_any A O2 r (itsFrom L (i + 1) rest) X vb vl _ HRR.out (BsK.old HGB.out HBR.out HO3.out) (BssK.old HGL.out HBR.out HO3.out) HXN.out HXO.out).mono ?_
           rintro e w4 ⟨rfl, O4, hR4, s4, hO4⟩
           replace r_l := Sam.row r_l s4 HNL.out
           have HR4 := Lib.hid hR4
           have HO4 : Hid (∀ b, O4 b → O b ∨ w.heap.size ≤ b) := Lib.hid fun b h => (hO4 b h).elim (HO2.out b) (fun h => .inr (Nat.le_trans HSS.out.size h))
           have S4 : Sam O w w4 := samO0 HSS.out s4 HO2.out
           clear HRR hR4 s4 hO4))
      go_roundw
      case rel => exact ⟨i + 1, O4, HI.out, by rw [HI1.out], HR4.out, HO4.out, S4, r_l⟩
      case measure => (have := HI1.out; have := HI.out; simp [intOf]; try omega)
    · obtain rfl : i = N := by omega
      have hiI : ¬ (i : Int) < (i : Int) := by omega
      have HRE : Hid (RdAt O2 wr r rest) := Lib.hid (by
        have h := itsFrom_all L rest
        rw [HN.out] at h
        rw [h] at hR
        exact hR)
      have HO2 := Lib.hid hO2
      have HSS := Lib.hid hs
      clear hi hlt hR hO2 hs
      go_wp2_with (first
        | (refine wpList_loadG 22 (.tmp 1) rfl rfl (.slice a i cap) r_l rfl (by omega) rfl (by kernel_rfl) ?_))
      go_end0
      exact ⟨rfl, O2, HRE.out, HSS.out, HO2.out⟩
end
end Go.Proofs.Ytllppgfajbbbaaa

/- WireBack over what is but promised. -/
namespace Go.Proofs.Ytllppgfajbbbaaa
open Go.RowKit Go.Deep
set_option linter.unusedSimpArgs false
set_option linter.unusedVariables false

/-- What is asked of Read: a function that leaves nothing but rest, or leaves by an Errno. -/
structure ReadApi (RdAt : (Nat → Prop) → World → Nat → List UInt8 → Prop) : Prop where
  ok : ∀ (F : Nat) (fn : Func) (caps : Array Value) (w : World) (vb : Value) (b rest : List UInt8) (G : Nat → Prop) (R : World → Prop), Try.prog.funcs[F]? = some fn → (fn.name == "runtime.NumGoroutine") = false → fn.body.isNone = false → Bs w vb b →
    b.length ≤ 200000000 → (∀ x, G x → x < w.heap.size) → (∀ wa wb, R wa → Sam (fun x => w.heap.size ≤ x) wa wb → R wb) →
    (∀ w1 O r, Below w.heap.size w w1 → RdAt O w1 r b → (∀ x, O x → w.heap.size ≤ x) → Calls Try.prog F (#[.pointer (some ⟨r, 0, none⟩)] ++ caps) w1 fun e w2 => e = .returned (.tuple #[]) ∧ R w2 ∧ ∃ O', RdAt O' w2 r rest ∧ Sam (fun x => O x ∨ G x) w1 w2 ∧ ∀ x, O' x → O x ∨ w1.heap.size ≤ x) →
    Calls Try.prog 12 #[vb, .func (.func F) #[] caps] w fun e w' => e = .returned (.int .i64 (if rest = [] then 0 else 2)) ∧ R w' ∧ Sam G w w'
theorem ReadApi.okN {RdAt : (Nat → Prop) → World → Nat → List UInt8 → Prop} (E : ReadApi RdAt) (F : Nat) (fn : Func) (caps : Array Value) (w : World) (vb : Value) (b rest : List UInt8) (G : Nat → Prop) (R : World → Prop) (h1 : Try.prog.funcs[F]? = some fn) (h2 : (fn.name == "runtime.NumGoroutine") = false) (h3 : fn.body.isNone = false) (h4 : Bs w vb b)
    (h5 : b.length ≤ 200000000) (hG : ∀ x, G x → x < w.heap.size) (h6 : ∀ wa wb, R wa → Sam (fun x => w.heap.size ≤ x) wa wb → R wb)
    (h7 : ∀ w1 O r, Below w.heap.size w w1 → RdAt O w1 r b → (∀ x, O x → w.heap.size ≤ x) → Calls Try.prog F (#[.pointer (some ⟨r, 0, none⟩)] ++ caps) w1 fun e w2 => e = .returned (.tuple #[]) ∧ R w2 ∧ ∃ O', RdAt O' w2 r rest ∧ Sam (fun x => O x ∨ G x) w1 w2 ∧ ∀ x, O' x → O x ∨ w1.heap.size ≤ x) (n : Int) (hn : (if rest = [] then (0 : Int) else 2) = n) :
    Calls Try.prog 12 #[vb, .func (.func F) #[] caps] w fun e w' => e = .returned (.int .i64 n) ∧ R w' ∧ Sam G w w' := by
  subst hn
  exact E.ok F fn caps w vb b rest G R h1 h2 h3 h4 h5 hG h6 h7
theorem wpList_byte0 {ops : Array Oper} {rest : List Oper} {o : Oper} {a : Act} {w : World} {Q : Exit → Act → World → Prop} (ho : o.op = .buildSlice 29 1 #[(0, .const (.int .u8 0))]) (hgd : o.guard = none)
    (h : ∀ v w', Owns w' w.heap.size v [0] → Below w.heap.size w w' → wpList Try.prog ops Q rest (a.put o.dst v) w') : wpList Try.prog ops Q (o :: rest) a w :=
  wpList_plain hgd fun _ hK => by
    have hx : (execOp a.eval (mkOp (.buildSlice 29 1 #[(0, .const (.int .u8 0))]) o.type)).run Try.prog w = .ok (.value (.slice (some ⟨w.heap.size, 0, none⟩) 1 1)) (w.alloc (.cells #[.int .u8 0] 5)) := by
      simp only [execOp, mkOp, List.map_toArray, List.map_cons, List.map_nil, eval_const]
      go_simp
    unfold Oper.wp
    rw [exec_mkOp, ho, hx]
    exact hK _ _ (h _ _ (OwnV.laid w 5 #[.int .u8 0] 1 rfl (by unfold maxLen; omega)) ((Below.refl _ _).alloc (Nat.le_refl _) _))
theorem wpList_box_one {P : Program} {ops : Array Oper} {rest : List Oper} {o : Oper} {a : Act} {w : World} {Q : Exit → Act → World → Prop} (ty : TypeId) (x : Operand) (ho : o.op = .box ty x) (hgd : o.guard = none) {ad : Option Addr} {n c : Nat} (hx : a.eval x = .slice ad n c)
    (h : ∀ b w', w.heap.size ≤ b → w'.rowIs b ty 1 (fun _ => .slice ad n c) → Below w.heap.size w w' → wpList P ops Q rest (a.put o.dst (.pointer (some ⟨b, 0, none⟩))) w') : wpList P ops Q (o :: rest) a w :=
  wpList_plain hgd fun _ hK => by
    unfold Oper.wp execOp
    simp [ho, hx, Instr.box, newVar, newRow, newObj, Value.cells, Result.andThen]
    exact hK _ _ (h _ _ (Nat.le_refl _) (World.rowIs_alloc w #[.slice ad n c] ty _ (fun i hi => by
      have hi' : i < 1 := hi
      obtain rfl : i = 0 := by omega
      rfl)) ((Below.refl _ _).alloc (Nat.le_refl _) _))
theorem wpList_alloc_bool {ops : Array Oper} {rest : List Oper} {o : Oper} {a : Act} {w : World} {Q : Exit → Act → World → Prop} (ho : o.op = .alloc 4) (hgd : o.guard = none)
    (h : ∀ b w', w.heap.size ≤ b → w'.rowIs b 4 1 (fun _ => .bool false) → Below w.heap.size w w' → wpList Try.prog ops Q rest (a.put o.dst (.pointer (some ⟨b, 0, none⟩))) w') : wpList Try.prog ops Q (o :: rest) a w :=
  wpList_plain hgd fun _ hK => by
    obtain ⟨i, hq, hz'⟩ : ∃ i, Try.prog.info? 4 = some i ∧ i.zero = some (.bool false) := by
      have h : (Try.prog.info? 4).map (fun i => i.zero) = some (some (.bool false)) := by kernel_rfl
      exact Option.map_eq_some_iff.1 h
    unfold Oper.wp execOp
    simp [ho, Instr.alloc, zeroValue, typeInfo, hq, hz', newVar, newRow, newObj, Value.cells, Result.andThen]
    exact hK _ _ (h _ _ (Nat.le_refl _) (World.rowIs_alloc w #[.bool false] 4 _ (fun i hi => by
      have hi' : i < 1 := hi
      obtain rfl : i = 0 := by omega
      rfl)) ((Below.refl _ _).alloc (Nat.le_refl _) _))
theorem wpList_bytes0 {ops : Array Oper} {rest : List Oper} {o : Oper} {a : Act} {w : World} {Q : Exit → Act → World → Prop} (ho : o.op = .buildSlice 29 0 #[]) (hgd : o.guard = none)
    (h : ∀ v w', Owns w' w.heap.size v [] → Below w.heap.size w w' → wpList Try.prog ops Q rest (a.put o.dst v) w') : wpList Try.prog ops Q (o :: rest) a w :=
  wpList_plain hgd fun _ hK => by
    have hx : (execOp a.eval (mkOp (.buildSlice 29 0 #[]) o.type)).run Try.prog w = .ok (.value (.slice (some ⟨w.heap.size, 0, none⟩) 0 0)) (w.alloc (.cells #[] 5)) := by unfold mkOp; go_simp
    unfold Oper.wp
    rw [exec_mkOp, ho, hx]
    exact hK _ _ (h _ _ (OwnV.laid w 5 #[] 0 rfl (by unfold maxLen; omega)) ((Below.refl _ _).alloc (Nat.le_refl _) _))
/-- Bytes do not lie in a bool's cell. -/
theorem bs_kind {w w' : World} {sb : Nat} {v : Value} {l : List UInt8} {t : TypeId} {x : Bool} (h : Bs w v l) (k : Sam (· = sb) w w') (hr : w.rowIs sb t 1 (fun _ => .bool x)) : Bs w' v l := by
  obtain ⟨ad, cap, rfl, h1, h2, h3, h4⟩ := h
  refine ⟨ad, cap, rfl, h1, h2, h3, fun y hy i hi => ?_⟩
  obtain ⟨g1, g2⟩ := h4 y hy i hi
  have hne : ¬ y.block = sb := by
    intro e
    obtain ⟨_, g2⟩ := h4 y hy 0 (by omega)
    have hrow := hr
    obtain ⟨cells, k1, k2, k3⟩ := hr
    obtain ⟨b, off, sp⟩ := y
    simp only at e
    subst e
    cases sp with
    | some s =>
      unfold World.cell? Addr.add at g2
      simp [k1] at g2
    | none =>
      rw [Addr.add_lit] at g2
      by_cases ho : off + 0 < 1
      · rw [hrow.cell ho] at g2
        cases g2
      · have h6 : w.cell? ⟨b, off + 0, none⟩ = none := by
          unfold World.cell?
          simp [k1, k2]
          omega
        rw [h6] at g2
        cases g2
  refine ⟨Nat.lt_of_lt_of_le g1 k.size, ?_⟩
  rw [← g2]
  refine World.cell?_of_block ?_
  rw [add_block]
  exact k.block _ g1 hne
section
variable {WrAt RdAt : (Nat → Prop) → World → Nat → List UInt8 → Prop} (A : WrApi WrAt) (D : RdApi RdAt) (E : ReadApi RdAt)
include A D E
set_option maxHeartbeats 4000000 in
set_option maxRecDepth 20000 in
theorem wireBack_api (nW : Nat) (zW : Nat → Value) (hz : (Try.prog.info? 27).map (fun i => i.zero) = some (some (.agg (arrOf nW zW)))) (h0 : ∀ w b, w.rowIs b 27 nW zW → WrAt (· = b) w b []) (haw : ∀ w, Calls Try.prog 8 #[] w fun e w' => e = .returned (.bool true) ∧ Below w.heap.size w w') (w : World) (v : Value) (L : List It) (hL : Its w v L) : Calls Try.prog 4 #[v] w fun e w' => e = .returned (.bool true) ∧ Below w.heap.size w w' := by
  have HV := Lib.hid hL
  obtain ⟨a, cap, rfl, h1, h2, h3, h4⟩ := hL
  clear h3 h4
  unfold maxLen at h2
  have HAW := Lib.hid haw
  have HZ := Lib.hid hz
  have HZ0 := Lib.hid h0
  have HA := Lib.hid A
  have HD := Lib.hid D
  have HE0 := Lib.hid E
  have Bw0 := Below.refl w.heap.size w
  have HGS : Hid (∀ wq : World, Below w.heap.size w wq → w.heap.size ≤ wq.heap.size) := Lib.hid fun wq h => h.size
  generalize hn : L.length = N at *
  have HN := Lib.hid hn
  clear hn haw hz h0
  go_enter Try.func4, Try.ntmps4
  go_wp2_with (first
    | (have hgo := Bw0; clear hgo
       refine wpList_box_one 22 (.tmp 0) rfl rfl rfl ?_
       intro lb w1 lk r_l kk
       have L1 := Lib.hid lk
       have Bw1 := zbt HGS Bw0 kk
       clear Bw0 kk lk)
    | (refine wpList_loadG 22 (.tmp 1) rfl rfl (.slice a N cap) r_l rfl (by omega) rfl (by kernel_rfl) ?_)
    | (have hgo := Bw1; clear hgo
       go_at_call 7
       refine (small_any _ L _ (HV.out.below Bw1 (Nat.le_refl _))).mono ?_
       rintro e w2 ⟨q, rfl, hq, kk⟩
       have HQ := Lib.hid hq
       have LL1 := Lib.hid r_l.lt
       replace r_l := zrb r_l kk
       have Bw2 := zbt HGS Bw1 kk
       have L2 := Lib.hid kk.size
       clear Bw1 kk hq
       cases q)
    | (have hgo := Bw2; clear hgo
       go_at_call 8
       refine (HAW.out _).mono ?_
       rintro e w9 ⟨rfl, kk⟩
       have Bw9 := zbt HGS Bw2 kk
       clear Bw2 kk)
    | (have hgo := Bw2; clear hgo
       refine wpList_alloc_row rfl 27 rfl nW zW HZ.out ?_
       intro y w3 lk r_y kk
       have hW := HZ0.out _ _ r_y
       have Ly := Lib.hid lk
       have LL2 := Lib.hid r_l.lt
       replace r_l := zrb r_l kk
       have Bw3 := zbt HGS Bw2 kk
       have LW2 := Lib.hid (HGS.out _ Bw2)
       have L3 := Lib.hid kk.size
       clear Bw2 kk r_y lk))
  · go_ret
    exact ⟨rfl, Bw9⟩
  have HSP : Hid (smallP L) := Lib.hid (by first | exact HQ.out rfl | exact HQ.out trivial | exact HQ.out)
  clear HQ
  go_loopw [4] (fun iv wr => ∃ (i : Nat) (O : Nat → Prop), i ≤ N ∧ iv = .int .i64 (i : Int) ∧ WrAt O wr y (catTo (L.map itL) i) ∧ (∀ b, O b → w2.heap.size ≤ b) ∧ wr.rowIs lb 22 1 (fun _ => .slice a N cap) ∧ w2.heap.size ≤ wr.heap.size ∧ Below w.heap.size w wr) (fun iv _ => N - (intOf iv).toNat)
  case atStart => exact ⟨0, (· = y), Nat.zero_le _, rfl, hW, (fun b h => by rw [h]; exact Ly.out), r_l, L3.out, Bw3⟩
  case round =>
    clear hW r_l Bw3
    obtain ⟨i, O, hi, rfl, hW, hO, r_l, hsz, Bw3⟩ := hrel
    have HLB : Hid (¬ O lb) := Lib.hid fun h => by have h1 := hO lb h; have h2 := LL2.out; omega
    by_cases hlt : i < N
    · have hiI : 0 ≤ (i : Int) ∧ (i : Int) < (N : Int) := by omega
      have hil : i < L.length := by rw [HN.out]; exact hlt
      obtain ⟨bb, off, cap', he, _, _, hbl, hit⟩ := HV.out.open_cons (by rw [HN.out]; omega)
      rw [HN.out] at he
      cases he
      obtain ⟨vb, vl, g_b, g_l, hxn, hcx⟩ := (hit i hil).cells
      have HCX := Lib.hid hcx
      have hxo := HSP.out.2 i hil
      have HC := Lib.hid (catTo_succ (L.map itL) i (by rw [List.length_map]; exact hil))
      have HT : Hid ((catTo (L.map itL) i).length ≤ 100000000) := Lib.hid (by have := its_len HSP.out i (by omega); have := HSP.out.1; omega)
      rw [List.getElem_map] at HC
      generalize L[i] = X at *
      have HXO := Lib.hid hxo
      have HXN := Lib.hid hxn
      have HGB := Lib.hid g_b
      have HGL := Lib.hid g_l
      have HI := Lib.hid hlt
      have HO := Lib.hid hO
      obtain ⟨i1, hi1⟩ := nat_var (i + 1)
      have hwi : IntKind.i64.wrap ((i : Int) + 1) = (i1 : Int) := by rw [IntWalk.i64_in _ (by omega)]; omega
      have HI1 := Lib.hid hi1
      obtain ⟨CI, hCI⟩ : ∃ C, C = catTo (L.map itL) i := ⟨_, rfl⟩
      rw [← hCI] at hW HC HT
      have HWW := Lib.hid hW
      have HOW : Hid (∀ b, O b → w.heap.size ≤ b) := Lib.hid fun b h => Nat.le_trans LW2.out (hO b h)
      have HSZ := Lib.hid hsz
      have M1 := Lib.hid hlt
      clear hi hlt hil hit hbl hcx hxo hxn g_b g_l hO hi1 hCI hW hsz
      go_wp2_with (first
        | (refine wpList_loadG 22 (.tmp 1) rfl rfl (.slice (some ⟨bb, off, none⟩) N cap) r_l rfl (by omega) rfl (by kernel_rfl) ?_)
        | (have hgo := M1; clear hgo
           refine wpList_load_cellsW 34 (.tmp 21) rfl rfl 4 arrIt (HCX.out _ Bw3) rfl ?_
           rw [itF_arr]
           clear M1)
        | (have hgo := Bw3; clear hgo
           go_at_call 9
           refine (write_any HA.out O y CI X vb vl _ HWW.out (BsK.old HGB.out Bw3 HOW.out) (BssK.old HGL.out Bw3 HOW.out) HXN.out HXO.out HT.out).mono ?_
           rintro e w4 ⟨rfl, O2, hW2, s4, hO2⟩
           have Bw4 : Below w.heap.size w w4 := Bw3.trans (s4.below HOW.out (HGS.out _ Bw3))
           replace r_l := Sam.row r_l s4 HLB.out
           have HO3 : Hid (∀ b, O2 b → w2.heap.size ≤ b) := Lib.hid fun b hb => (hO2 b hb).elim (HO.out b) fun h => Nat.le_trans HSZ.out h
           have HS4 : Hid (w2.heap.size ≤ w4.heap.size) := Lib.hid (Nat.le_trans HSZ.out s4.size)
           have HW2 := Lib.hid hW2
           clear Bw3 hW2 s4 hO2))
      go_roundw
      case rel => exact ⟨i + 1, O2, HI.out, by rw [HI1.out], by rw [HC.out]; exact HW2.out, HO3.out, r_l, HS4.out, Bw4⟩
      case measure => (have := HI1.out; have := HI.out; simp [intOf]; try omega)
    · obtain rfl : i = N := by omega
      have hiI : ¬ (i : Int) < (i : Int) := by omega
      have hall : catTo (L.map itL) i = (L.map itL).flatten := catTo_all _ _ (by rw [List.length_map, HN.out]; exact Nat.le_refl _)
      have hlen : (catTo (L.map itL) i).length ≤ 100000000 := by have := its_len HSP.out i (by rw [HN.out]; exact Nat.le_refl _); have := HSP.out.1; rw [HN.out] at this; omega
      rw [hall] at hW hlen
      obtain ⟨BL, hBL⟩ : ∃ C, C = (L.map itL).flatten := ⟨_, rfl⟩
      have HBL := Lib.hid hBL
      rw [← hBL] at hW hlen
      have HLEN := Lib.hid hlen
      have HWW := Lib.hid hW
      clear hi hlt hall hBL hW hO hlen hsz
      go_wp2_with (first
        | (refine wpList_loadG 22 (.tmp 1) rfl rfl (.slice a i cap) r_l rfl (by omega) rfl (by kernel_rfl) ?_)
        | (have hgo := Bw3; clear hgo
           go_at_call 11
           refine (HA.out.done O _ y BL HWW.out (by have := HLEN.out; omega)).mono ?_
           rintro e w4 ⟨v_b, rfl, f_b, kk⟩
           replace r_l := zrb r_l kk
           have Bw4 := zbt HGS Bw3 kk
           clear Bw3 kk)
        | (have hgo := Bw4; clear hgo
           refine wpList_alloc_bool rfl rfl ?_
           intro sb w5 lk r_s kk
           have nls := zrn r_l lk
           have NLS := Lib.hid nls
           have LS := Lib.hid (Nat.le_trans (HGS.out _ Bw4) lk)
           replace r_l := zrb r_l kk
           replace f_b := zfb f_b kk
           have LSB : Hid (w4.heap.size ≤ sb) := Lib.hid lk
           have Bw5 := zbt HGS Bw4 kk
           have FB4 := Lib.hid f_b
           clear Bw4 kk lk nls f_b)
        | (have hgo := Bw5; clear hgo
           refine wpList_storeG 4 (.tmp 6) (.const (.bool true)) rfl rfl (fun _ => .bool true) r_s rfl rfl (by kernel_rfl) rfl rfl (by omega) (fun j hj => by obtain rfl : j = 0 := (by omega); rfl) ?_
           intro w6 q6 s6
           replace r_l := Sam.row r_l s6 NLS.out
           have HB6 : Hid (Bs w6 v_b BL) := Lib.hid (bs_kind FB4.out s6 r_s)
           replace r_s := q6
           have Bw6 : Below w.heap.size w w6 := Bw5.trans (s6.below (fun b h => by rw [h]; exact LS.out) (HGS.out _ Bw5))
           clear Bw5 s6 q6 FB4)
        | (have hgo := Bw6; clear hgo
           go_at_call 12
           refine (HE0.out.okN 13 _ #[.pointer (some ⟨lb, 0, none⟩), .pointer (some ⟨sb, 0, none⟩)] _ v_b BL [] (· = sb) (fun wx => wx.rowIs sb 4 1 (fun _ => .bool true)) Try.func13 (by kernel_rfl) (by kernel_rfl) HB6.out (by have := HLEN.out; omega) (fun x h => by have := r_s.lt; omega) (fun wa wb h k => Sam.row h k (fun h => by have := r_s.lt; omega)) (fun w1 O1 r hb1 hr1 ho1 => ?_) 0 (if_pos rfl)).mono ?_
           · have g := back1_any HD.out O1 w w1 r lb sb _ L [] HV.out HSP.out (Bw6.trans (hb1.mono (HGS.out _ Bw6))) (fun b h => Nat.le_trans (HGS.out _ Bw6) (ho1 b h)) (fun h => by have := ho1 lb h; have := r_l.lt; omega) (zrb r_l hb1) ⟨LS.out, fun h => by have := ho1 sb h; have := r_s.lt; omega, NLS.out⟩ (zrb r_s hb1) (by rw [List.append_nil, ← HBL.out]; exact hr1)
             exact g
           rintro e w7 ⟨rfl, r_s7, s7⟩
           have HB7 : Hid (Bs w7 v_b BL) := Lib.hid (bs_kind HB6.out s7 r_s)
           replace r_l := Sam.row r_l s7 NLS.out
           have Bw7 : Below w.heap.size w w7 := Bw6.trans (s7.below (fun b h => by rw [h]; exact LS.out) (HGS.out _ Bw6))
           clear Bw6 s7 r_s HB6)
        | (have hgo := Bw7; clear hgo
           refine wpList_bytes0 rfl rfl ?_
           intro v_8 w8 o_8 kk
           have f_b := zfb HB7.out kk
           have LB8 := Lib.hid (And.intro kk.size (HGS.out _ Bw7))
           have k8 := Lib.hid kk
           have Bw8 := zbt HGS Bw7 kk
           clear Bw7 kk HB7)
        | (have hgo := Bw8; clear hgo
           refine wpList_appP (.tmp 28) (.tmp 29) rfl rfl w7.heap.size _ _ _ BL o_8 f_b rfl rfl (by have := HLEN.out; simp; omega) LB8.out.1 ?_
           intro v_9 w9 o_9 gk hsm
           have s9 : Below w7.heap.size w8 w9 := ⟨gk.os, gk.tape, gk.output, gk.size, fun k hk => gk.block k (by have := LB8.out.1; omega) fun e => by have := o_8.block k e.symm; omega⟩
           have B79 : Below w7.heap.size w7 w9 := k8.out.trans s9
           have Bw9 : Below w.heap.size w w9 := Bw8.trans (s9.mono LB8.out.2)
           replace o_9 : Owns w9 w7.heap.size v_9 BL := o_9
           have HB79 := Lib.hid B79
           clear Bw8 gk hsm s9 o_8 f_b B79 k8)
        | (have hgo := Bw9; clear hgo
           refine wpList_byte0 rfl rfl ?_
           intro v_10 w10 o_10 kk
           replace o_9 := Owns.belowJ o_9 kk
           have f_0 := o_10.bs
           have HBA : Hid (Below w7.heap.size w7 w10) := Lib.hid (HB79.out.trans (kk.mono HB79.out.size))
           have Bw10 := zbt HGS Bw9 kk
           clear Bw9 kk o_10 HB79)
        | (have hgo := Bw10; clear hgo
           refine wpList_appP (.tmp 30) (.tmp 31) rfl rfl w7.heap.size _ _ _ [0] o_9 f_0 rfl rfl (by have := HLEN.out; simp; omega) HBA.out.size ?_
           intro v_11 w11 o_11 gk hsm
           have s11 : Below w7.heap.size w10 w11 := ⟨gk.os, gk.tape, gk.output, gk.size, fun k hk => gk.block k (by have := HBA.out.size; omega) fun e => by have := o_9.block k e.symm; omega⟩
           have HBB : Hid (Below w7.heap.size w7 w11) := Lib.hid (HBA.out.trans s11)
           have Bw11 : Below w.heap.size w w11 := Bw10.trans (s11.mono LB8.out.2)
           have HF11 := Lib.hid o_11.bs
           clear Bw10 gk hsm s11 o_9 f_0 o_11 HBA)
        | (have hgo := Bw11; clear hgo
           go_at_call 12
           refine (HE0.out.okN 15 _ #[.pointer (some ⟨lb, 0, none⟩)] _ v_11 (BL ++ [0]) [0] (fun _ => False) (fun _ => True) Try.func15 (by kernel_rfl) (by kernel_rfl) HF11.out (by have := HLEN.out; simp; omega) (fun x h => h.elim) (fun wa wb h k => trivial) (fun w1 O1 r hb1 hr1 ho1 => ?_) 2 (if_neg (by simp))).mono ?_
           · have g := back2_any HD.out O1 w w1 r lb _ L [0] HV.out HSP.out (Bw11.trans (hb1.mono (HGS.out _ Bw11))) (fun b h => Nat.le_trans (HGS.out _ Bw11) (ho1 b h)) (fun h => by have h1 := ho1 lb h; have h2 := r_l.lt; have h3 := HBB.out.size; omega) (zrb (zrb r_l HBB.out) hb1) (by rw [← HBL.out]; exact hr1)
             refine g.mono ?_
             rintro e w2 ⟨h1, O2, h2, h3, h4⟩
             exact ⟨h1, trivial, O2, h2, h3.mono fun b _ h => .inl h, h4⟩
           rintro e w12 ⟨rfl, _, s12⟩
           have k12 := Sam.none s12
           have r_s12 := zrb (zrb r_s7 HBB.out) k12
           have Bw12 := zbt HGS Bw11 k12
           clear Bw11 s12 k12 HF11)
        | (refine wpList_loadG 4 (.tmp 6) rfl rfl (.bool true) r_s12 rfl (by omega) rfl (by kernel_rfl) ?_)
        | (have hgo := Bw12; clear hgo
           go_at_call 8
           refine (HAW.out _).mono ?_
           rintro e w13 ⟨rfl, kk⟩
           have Bw13 := zbt HGS Bw12 kk
           clear Bw12 kk))
      go_ret
      exact ⟨rfl, Bw13⟩
end
end Go.Proofs.Ytllppgfajbbbaaa

/- The program's Writer: Num, Bytes, Fixed, List; of a nil one too. -/
namespace Go.Proofs.Ytllppgfajbbbaaa
open Go.RowKit Go.Deep
set_option linter.unusedSimpArgs false
set_option linter.unusedVariables false

theorem wlist_rows1 {ops : Array Oper} {rest : List Oper} {o : Oper} {a : Act} {w : World} {Q : Exit → Act → World → Prop} (hgd : o.guard = none) (x : Operand) (ho : o.op = .buildSlice 32 1 #[(0, x)]) {v1 : Value} {l1 : List UInt8} (h1 : Bs w v1 l1) (hx : a.eval x = v1)
    (h : ∀ v w', Bss w' v [l1] → Below w.heap.size w w' → wpList Try.prog ops Q rest (a.put o.dst v) w') : wpList Try.prog ops Q (o :: rest) a w := by
  obtain ⟨a1, c1, rfl, _⟩ := id h1
  have hr := exec_rows1 a.eval x o.type w a1 _ c1 hx
  exact wpList_plain hgd fun _ hK => by
    unfold Oper.wp
    rw [exec_mkOp, ho, hr]
    exact hK _ _ (h _ _ (Bss.one h1 rfl) ((Below.refl _ _).alloc (Nat.le_refl _) _))
theorem own_nil (w : World) (base : Nat) : Owns w base (.slice none 0 0) [] := World.ownsRow_nil _ _ _ _
set_option maxHeartbeats 4000000 in
set_option maxRecDepth 20000 in
theorem wcounted_any (w : World) (base : Nat) (vo vb : Value) (l b : List UInt8) (ho : Owns w base vo l) (hb : BsK (fun x => base ≤ x) w vb b) (hbase : base ≤ w.heap.size) (hbl : b.length ≤ 1000000) (hl : l.length ≤ 150000000) : Calls Try.prog 43 #[vo, vb] w fun e w' => ∃ v, e = .returned v ∧ Owns w' base v (l ++ bytL b) ∧ Below base w w' := by
  obtain ⟨RES, hRES⟩ : ∃ R, R = l ++ bytL b := ⟨_, rfl⟩
  rw [← hRES]
  have HB := Lib.hid hb
  obtain ⟨a, N, cap, rfl, hn0, h2, h3, h4⟩ := hb.bs.shape
  have hn : b.length = N := by omega
  have hw1 : IntKind.u64.wrap (N : Int) = (N : Int) := by rw [IntKind.wrap_u64]; omega
  have HR : Hid (l ++ numL7 N ++ b = RES) := Lib.hid (by rw [hRES, bytL, hn, List.append_assoc])
  have HL : Hid ((l ++ numL7 N).length + b.length ≤ 2147483647 ∧ l.length ≤ 150000000 ∧ N < 18446744073709551616) := Lib.hid (by have := numL7_len N; rw [List.length_append]; omega)
  have HO := Lib.hid ho
  have HBS := Lib.hid hbase
  have HGS : Hid (∀ wq : World, Below base w wq → base ≤ wq.heap.size) := Lib.hid fun wq h => Nat.le_trans hbase h.size
  have Bw0 := Below.refl base w
  clear hRES hb hn0 h2 h3 h4 hn hbl hl ho hbase
  go_enter Try.func43, Try.ntmps43
  go_wp2_with (first
    | (have hgo := Bw0; clear hgo
       go_at_call 45
       refine (wnum_any _ base _ l N HO.out HBS.out HL.out.2.2 HL.out.2.1).mono ?_
       rintro e w1 ⟨v1, rfl, o1, kk⟩
       have f_b := (HB.out.step (w' := w1) ⟨kk.os, kk.tape, kk.output, kk.size, fun k hk hn => kk.block k (by omega)⟩).bs
       have Bw1 := kk
       clear Bw0 kk)
    | (have hgo := Bw1; clear hgo
       refine wpList_app rfl (.tmp 9) (.tmp 10) rfl base _ _ _ b o1 f_b rfl rfl (HL.out.1) (HGS.out _ Bw1) ?_
       intro v8 w6 o8 gk
       have Bw6 := Bw1.grown gk (HGS.out _ Bw1) (fun k hk => Owns.block o1 k hk)
       rw [HR.out] at o8
       clear gk o1 f_b Bw1))
  go_ret
  exact ⟨_, rfl, o8, Bw6⟩
theorem WrNew.aft {WrAt : (Nat → Prop) → World → Nat → List UInt8 → Prop} {O : Nat → Prop} {w w1 w' : World} {y : Nat} {m : List UInt8} (hb : Below w.heap.size w w1) (h : ∃ O', WrAt O' w' y m ∧ Sam O w1 w' ∧ ∀ c, O' c → O c ∨ w.heap.size ≤ c) : WrNew WrAt O w y m w' := by
  obtain ⟨O', h1, h2, h3⟩ := h
  exact ⟨O', h1, (Sam.of_below hb).trans h2, h3⟩
theorem wrAt.bel {O : Nat → Prop} {w w' : World} {y : Nat} {l : List UInt8} (h : wrAt O w y l) (k : Below w.heap.size w w') : wrAt O w' y l := wrAt.stay O (fun _ => False) w w' y l h (Sam.of_below k) fun _ h => h.elim
set_option maxHeartbeats 4000000 in
set_option maxRecDepth 20000 in
theorem wrNum_any (O : Nat → Prop) (w : World) (y : Nat) (l : List UInt8) (n : Nat) (hW : wrAt O w y l) (hn : n < 18446744073709551616) (hl : l.length ≤ 150000000) : Calls Try.prog 29 #[.pointer (some ⟨y, 0, none⟩), .int .u64 (n : Int)] w fun e w' => e = .returned (.pointer (some ⟨y, 0, none⟩)) ∧ WrNew wrAt O w y (l ++ numL7 n) w' := by
  have HW := Lib.hid hW
  have HY : Hid (y < w.heap.size) := Lib.hid (wrAt.lt O w y l hW y hW.y)
  have HL : Hid (l.length + (numL7 n).length ≤ 2147483647 ∧ n < 18446744073709551616) := Lib.hid (by have := numL7_len n; omega)
  have HN0 : Hid (Owns w w.heap.size (.slice none 0 0) []) := Lib.hid (own_nil _ _)
  have Bw0 := Below.refl w.heap.size w
  clear hW hn hl
  go_enter Try.func29, Try.ntmps29
  go_wp2_with (first
    | (have hgo := Bw0; clear hgo
       go_at_call 45
       refine (wnum_any _ w.heap.size _ [] n HN0.out (Nat.le_refl _) HL.out.2 (by decide)).mono ?_
       rintro e w1 ⟨v1, rfl, o1, kk⟩
       have Bw1 := kk
       clear Bw0 kk)
    | (have hgo := Bw1; clear hgo
       go_at_call 42
       refine (wadd_any O _ y w.heap.size l v1 _ (HW.out.bel Bw1) o1 HY.out Bw1.size (by simpa using HL.out.1)).mono ?_
       rintro e w2 ⟨rfl, h2⟩
       have HN := Lib.hid (WrNew.aft Bw1 h2)
       clear Bw1 h2 o1))
  go_ret
  exact ⟨rfl, by simpa using HN.out⟩
set_option maxHeartbeats 4000000 in
set_option maxRecDepth 20000 in
theorem wrBytes_any (O : Nat → Prop) (w : World) (y : Nat) (l : List UInt8) (vb : Value) (b : List UInt8) (hW : wrAt O w y l) (hb : Bs w vb b) (hbl : b.length ≤ 1000000) (hl : l.length ≤ 140000000) : Calls Try.prog 20 #[.pointer (some ⟨y, 0, none⟩), vb] w fun e w' => e = .returned (.pointer (some ⟨y, 0, none⟩)) ∧ WrNew wrAt O w y (l ++ bytL b) w' := by
  have HW := Lib.hid hW
  have HY : Hid (y < w.heap.size) := Lib.hid (wrAt.lt O w y l hW y hW.y)
  have HL : Hid (l.length + (bytL b).length ≤ 2147483647 ∧ b.length ≤ 1000000) := Lib.hid (by have := bytL_len b; omega)
  have HN0 : Hid (Owns w w.heap.size (.slice none 0 0) []) := Lib.hid (own_nil _ _)
  have HB : Hid (BsK (fun x => w.heap.size ≤ x) w vb b) := Lib.hid (BsK.old hb (Below.refl _ _) fun x h => h)
  have Bw0 := Below.refl w.heap.size w
  clear hW hbl hl hb
  go_enter Try.func20, Try.ntmps20
  go_wp2_with (first
    | (have hgo := Bw0; clear hgo
       go_at_call 43
       refine (wcounted_any _ w.heap.size _ vb [] b HN0.out HB.out (Nat.le_refl _) HL.out.2 (by decide)).mono ?_
       rintro e w1 ⟨v1, rfl, o1, kk⟩
       have Bw1 := kk
       clear Bw0 kk)
    | (have hgo := Bw1; clear hgo
       go_at_call 42
       refine (wadd_any O _ y w.heap.size l v1 _ (HW.out.bel Bw1) o1 HY.out Bw1.size (by simpa using HL.out.1)).mono ?_
       rintro e w2 ⟨rfl, h2⟩
       have HN := Lib.hid (WrNew.aft Bw1 h2)
       clear Bw1 h2 o1))
  go_ret
  exact ⟨rfl, by simpa using HN.out⟩
set_option maxHeartbeats 4000000 in
set_option maxRecDepth 20000 in
theorem wrFixed_any (O : Nat → Prop) (w : World) (y : Nat) (l : List UInt8) (vb : Value) (b : List UInt8) (hW : wrAt O w y l) (hb : Bs w vb b) (hbl : b.length ≤ 1000000) (hl : l.length ≤ 150000000) : Calls Try.prog 33 #[.pointer (some ⟨y, 0, none⟩), vb] w fun e w' => e = .returned (.pointer (some ⟨y, 0, none⟩)) ∧ WrNew wrAt O w y (l ++ b) w' := by
  have HW := Lib.hid hW
  have HY : Hid (y < w.heap.size) := Lib.hid (wrAt.lt O w y l hW y hW.y)
  have HL : Hid (l.length + b.length ≤ 2147483647 ∧ [b].flatten.length ≤ 2147483647) := Lib.hid (by simp; omega)
  have f_b := hb
  have Bw0 := Below.refl w.heap.size w
  clear hW hbl hl hb
  go_enter Try.func33, Try.ntmps33
  go_wp2_with (first
    | (have hgo := Bw0; clear hgo
       refine wlist_rows1 rfl (.tmp 6) rfl f_b rfl ?_
       intro v_r w1 F_r kk
       have Bw1 := kk
       clear Bw0 kk)
    | (have hgo := Bw1; clear hgo
       go_at_call 51
       refine (cat_any v_r [b] _ F_r HL.out.2).mono ?_
       rintro e w2 ⟨v2, rfl, o2, kk⟩
       have Bw2 := Bw1.trans (kk.mono Bw1.size)
       replace o2 := Owns.lower o2 Bw1.size
       clear Bw1 kk F_r)
    | (have hgo := Bw2; clear hgo
       go_at_call 42
       refine (wadd_any O _ y w.heap.size l v2 _ (HW.out.bel Bw2) o2 HY.out Bw2.size (by simpa using HL.out.1)).mono ?_
       rintro e w3 ⟨rfl, h3⟩
       have HN := Lib.hid (WrNew.aft Bw2 h3)
       clear Bw2 h3 o2))
  go_ret
  exact ⟨rfl, by simpa using HN.out⟩
theorem BssK.slice {M : Nat → Prop} {w : World} {v : Value} {L : List (List UInt8)} (h : BssK M w v L) : ∃ a cap, v = .slice a L.length cap ∧ L.length ≤ maxLen := by
  obtain ⟨f, h1, _⟩ := h
  obtain ⟨a, cap, rfl, h3, h4, _⟩ := h1.vs
  exact ⟨a, cap, rfl, Nat.le_trans h3 h4⟩
theorem BssK.open_at {M : Nat → Prop} {w : World} {v : Value} {L : List (List UInt8)} (h : BssK M w v L) (i : Nat) (hi : i < L.length) : ∃ b off cap u, v = .slice (some ⟨b, off, none⟩) L.length cap ∧ b < w.heap.size ∧ w.cell? ⟨b, off + i, none⟩ = some u ∧ BsK M w u L[i] := by
  obtain ⟨f, h1, h2⟩ := h
  obtain ⟨a, cap, rfl, h3, h4, h5, h6⟩ := h1.vs
  cases a with
  | none => have := h5 rfl; omega
  | some x =>
    obtain ⟨b, off, spot⟩ := x
    have hs : spot = none := by simpa [Addr.add] using World.cell?_spot (h6 _ rfl 0 (by omega)).2
    subst hs
    obtain ⟨g1, g2⟩ := h6 _ rfl i hi
    exact ⟨b, off, cap, f i, rfl, g1, by rw [← add_eq]; exact g2, h2 i hi⟩
set_option maxHeartbeats 4000000 in
set_option maxRecDepth 20000 in
theorem wrList_any (O : Nat → Prop) (w : World) (y : Nat) (l : List UInt8) (vl : Value) (L : List (List UInt8)) (hW : wrAt O w y l) (hL : BssK (fun x => w.heap.size ≤ x) w vl L) (hLl : L.flatten.length + L.length ≤ 1000000) (hl : l.length ≤ 100000000) : Calls Try.prog 22 #[.pointer (some ⟨y, 0, none⟩), vl] w fun e w' => e = .returned (.pointer (some ⟨y, 0, none⟩)) ∧ WrNew wrAt O w y (l ++ (numL7 L.length ++ (L.map bytL).flatten)) w' := by
  have HW := Lib.hid hW
  have HY : Hid (y < w.heap.size) := Lib.hid (wrAt.lt O w y l hW y hW.y)
  have HB := Lib.hid hL
  have HLL : Hid ((L.map bytL).flatten.length ≤ 11000000 ∧ L.flatten.length + L.length ≤ 1000000 ∧ l.length ≤ 100000000) := Lib.hid (by have := rows_len L; omega)
  obtain ⟨a, cap, rfl, hmx⟩ := hL.slice
  generalize hn : L.length = N at *
  have HN := Lib.hid hn
  have hw1 : IntKind.u64.wrap (N : Int) = (N : Int) := by rw [IntKind.wrap_u64]; omega
  have HL : Hid (N < 18446744073709551616 ∧ N ≤ 1000000) := Lib.hid (by omega)
  have HN0 : Hid (Owns w w.heap.size (.slice none 0 0) []) := Lib.hid (own_nil _ _)
  have HGS : Hid (∀ wq : World, Below w.heap.size w wq → w.heap.size ≤ wq.heap.size) := Lib.hid fun wq h => h.size
  have Bw0 := Below.refl w.heap.size w
  clear hW hL hLl hl hn hmx
  go_enter Try.func22, Try.ntmps22
  go_wp2_with (first
    | (have hgo := Bw0; clear hgo
       go_at_call 45
       refine (wnum_any _ w.heap.size _ [] N HN0.out (Nat.le_refl _) HL.out.1 (by decide)).mono ?_
       rintro e w1 ⟨v1, rfl, o1, kk⟩
       have Bw1 := kk
       clear Bw0 kk hw1))
  go_loopw [5, 14] (fun vv iv wr => ∃ (i : Nat), i ≤ N ∧ iv = .int .i64 (i : Int) ∧ Owns wr w.heap.size vv (numL7 N ++ catTo (L.map bytL) i) ∧ Below w.heap.size w wr) (fun _ iv _ => N - (intOf iv).toNat)
  case atStart => exact ⟨0, Nat.zero_le _, rfl, by simpa [catTo] using o1, Bw1⟩
  case round =>
    clear o1 Bw1
    obtain ⟨i, hi, rfl, o_v, Bw1⟩ := hrel
    by_cases hlt : i < N
    · have hiI : 0 ≤ (i : Int) ∧ (i : Int) < (N : Int) := by omega
      have hil : i < L.length := by rw [HN.out]; exact hlt
      have HBr := Lib.hid (HB.out.step ⟨Bw1.os, Bw1.tape, Bw1.output, Bw1.size, fun k hk hn => Bw1.block k (by omega)⟩)
      obtain ⟨bb, off, cap', u, he, hbl, hcj, hu⟩ := HBr.out.open_at i hil
      rw [HN.out] at he
      cases he
      have HU := Lib.hid hu
      have HC := Lib.hid (catTo_succ (L.map bytL) i (by rw [List.length_map]; exact hil))
      have HT : Hid ((numL7 N ++ catTo (L.map bytL) i).length ≤ 140000000 ∧ L[i].length ≤ 1000000) := Lib.hid (by
        have g1 := catTo_le (L.map bytL) i
        have g3 := HLL.out
        have g5 := numL7_len N
        have g6 := in_flatten L L[i] (List.getElem_mem _)
        rw [List.length_append]
        omega)
      rw [List.getElem_map] at HC
      generalize L[i] = row at *
      have HJ := Lib.hid hlt
      obtain ⟨i1, hi1⟩ := nat_var (i + 1)
      have hwj : IntKind.i64.wrap ((i : Int) + 1) = (i1 : Int) := by rw [IntWalk.i64_in _ (by have := HL.out.2; omega)]; omega
      have HJ1 := Lib.hid hi1
      clear hi hlt hi1 hu hil
      go_wp2_with (first
        | (have hgo := HU; clear hgo
           go_at_call 43
           refine (wcounted_any _ w.heap.size _ u _ row o_v HU.out (HGS.out _ Bw1) HT.out.2 (Nat.le_trans HT.out.1 (by decide))).mono ?_
           rintro e w5 ⟨v5, rfl, o5, kk⟩
           have Bw5 := Bw1.trans kk
           rw [List.append_assoc, ← HC.out] at o5
           clear HU kk Bw1 o_v))
      go_roundw
      case rel => exact ⟨i + 1, HJ.out, by rw [HJ1.out], o5, Bw5⟩
      case measure => (have := HJ1.out; have := HJ.out; simp [intOf]; try omega)
    · obtain rfl : i = N := by omega
      have hiI : ¬ (i : Int) < (i : Int) := by omega
      rw [catTo_all _ _ (by rw [List.length_map, HN.out]; exact Nat.le_refl _)] at o_v
      have HT : Hid (l.length + (numL7 i ++ (L.map bytL).flatten).length ≤ 2147483647) := Lib.hid (by
        have g3 := HLL.out
        have g5 := numL7_len i
        rw [List.length_append]
        omega)
      clear hlt hi
      go_wp2_with (first
        | (have hgo := HT; clear hgo
           go_at_call 42
           refine (wadd_any O _ y w.heap.size l _ _ (HW.out.bel Bw1) o_v HY.out Bw1.size HT.out).mono ?_
           rintro e w3 ⟨rfl, h3⟩
           have HN3 := Lib.hid (WrNew.aft Bw1 h3)
           clear h3 HT))
      go_ret
      exact ⟨rfl, HN3.out⟩
set_option maxHeartbeats 4000000 in
set_option maxRecDepth 20000 in
theorem wrNum_nil (w : World) (n : Nat) (hn : n < 18446744073709551616) : Calls Try.prog 29 #[.pointer none, .int .u64 (n : Int)] w fun e w' => e = .returned (.pointer none) ∧ Below w.heap.size w w' := by
  have HH := Lib.hid hn
  have HN0 : Hid (Owns w w.heap.size (.slice none 0 0) []) := Lib.hid (own_nil _ _)
  have Bw0 := Below.refl w.heap.size w
  clear hn
  go_enter Try.func29, Try.ntmps29
  go_wp2_with (first
    | (have hgo := Bw0; clear hgo
       go_at_call 45
       refine (wnum_any _ w.heap.size _ [] n HN0.out (Nat.le_refl _) HH.out (by decide)).mono ?_
       rintro e w1 ⟨v1, rfl, o1, kk⟩
       have Bw1 := kk
       clear Bw0 kk)
    | (have hgo := o1; clear hgo
       go_at_call 42
       refine (wadd_nil _ v1).mono ?_
       rintro e w2 ⟨rfl, rfl⟩
       clear o1))
  go_ret
  exact ⟨rfl, Bw1⟩
set_option maxHeartbeats 4000000 in
set_option maxRecDepth 20000 in
theorem wrBytes_nil (w : World) (vb : Value) (b : List UInt8) (hb : Bs w vb b) (hbl : b.length ≤ 1000000) : Calls Try.prog 20 #[.pointer none, vb] w fun e w' => e = .returned (.pointer none) ∧ Below w.heap.size w w' := by
  have HH := Lib.hid hbl
  have HN0 : Hid (Owns w w.heap.size (.slice none 0 0) []) := Lib.hid (own_nil _ _)
  have HB : Hid (BsK (fun x => w.heap.size ≤ x) w vb b) := Lib.hid (BsK.old hb (Below.refl _ _) fun x h => h)
  have Bw0 := Below.refl w.heap.size w
  clear hbl hb
  go_enter Try.func20, Try.ntmps20
  go_wp2_with (first
    | (have hgo := Bw0; clear hgo
       go_at_call 43
       refine (wcounted_any _ w.heap.size _ vb [] b HN0.out HB.out (Nat.le_refl _) HH.out (by decide)).mono ?_
       rintro e w1 ⟨v1, rfl, o1, kk⟩
       have Bw1 := kk
       clear Bw0 kk)
    | (have hgo := o1; clear hgo
       go_at_call 42
       refine (wadd_nil _ v1).mono ?_
       rintro e w2 ⟨rfl, rfl⟩
       clear o1))
  go_ret
  exact ⟨rfl, Bw1⟩
set_option maxHeartbeats 4000000 in
set_option maxRecDepth 20000 in
theorem wrFixed_nil (w : World) (vb : Value) (b : List UInt8) (hb : Bs w vb b) (hbl : b.length ≤ 1000000) : Calls Try.prog 33 #[.pointer none, vb] w fun e w' => e = .returned (.pointer none) ∧ Below w.heap.size w w' := by
  have HL : Hid ([b].flatten.length ≤ 2147483647) := Lib.hid (by simp; omega)
  have f_b := hb
  have Bw0 := Below.refl w.heap.size w
  clear hbl hb
  go_enter Try.func33, Try.ntmps33
  go_wp2_with (first
    | (have hgo := Bw0; clear hgo
       refine wlist_rows1 rfl (.tmp 6) rfl f_b rfl ?_
       intro v_r w1 F_r kk
       have Bw1 := kk
       clear Bw0 kk)
    | (have hgo := Bw1; clear hgo
       go_at_call 51
       refine (cat_any v_r [b] _ F_r HL.out).mono ?_
       rintro e w2 ⟨v2, rfl, o2, kk⟩
       have Bw2 := Bw1.trans (kk.mono Bw1.size)
       clear Bw1 kk F_r)
    | (have hgo := o2; clear hgo
       go_at_call 42
       refine (wadd_nil _ v2).mono ?_
       rintro e w3 ⟨rfl, rfl⟩
       clear o2))
  go_ret
  exact ⟨rfl, Bw2⟩
set_option maxHeartbeats 4000000 in
set_option maxRecDepth 20000 in
theorem wrList_nil (w : World) (vl : Value) (L : List (List UInt8)) (hL : BssK (fun x => w.heap.size ≤ x) w vl L) (hLl : L.flatten.length + L.length ≤ 1000000) : Calls Try.prog 22 #[.pointer none, vl] w fun e w' => e = .returned (.pointer none) ∧ Below w.heap.size w w' := by
  have HB := Lib.hid hL
  have HLL : Hid ((L.map bytL).flatten.length ≤ 11000000 ∧ L.flatten.length + L.length ≤ 1000000  ) := Lib.hid (by have := rows_len L; omega)
  obtain ⟨a, cap, rfl, hmx⟩ := hL.slice
  generalize hn : L.length = N at *
  have HN := Lib.hid hn
  have hw1 : IntKind.u64.wrap (N : Int) = (N : Int) := by rw [IntKind.wrap_u64]; omega
  have HL : Hid (N < 18446744073709551616 ∧ N ≤ 1000000) := Lib.hid (by omega)
  have HN0 : Hid (Owns w w.heap.size (.slice none 0 0) []) := Lib.hid (own_nil _ _)
  have HGS : Hid (∀ wq : World, Below w.heap.size w wq → w.heap.size ≤ wq.heap.size) := Lib.hid fun wq h => h.size
  have Bw0 := Below.refl w.heap.size w
  clear hL hLl hn hmx
  go_enter Try.func22, Try.ntmps22
  go_wp2_with (first
    | (have hgo := Bw0; clear hgo
       go_at_call 45
       refine (wnum_any _ w.heap.size _ [] N HN0.out (Nat.le_refl _) HL.out.1 (by decide)).mono ?_
       rintro e w1 ⟨v1, rfl, o1, kk⟩
       have Bw1 := kk
       clear Bw0 kk hw1))
  go_loopw [5, 14] (fun vv iv wr => ∃ (i : Nat), i ≤ N ∧ iv = .int .i64 (i : Int) ∧ Owns wr w.heap.size vv (numL7 N ++ catTo (L.map bytL) i) ∧ Below w.heap.size w wr) (fun _ iv _ => N - (intOf iv).toNat)
  case atStart => exact ⟨0, Nat.zero_le _, rfl, by simpa [catTo] using o1, Bw1⟩
  case round =>
    clear o1 Bw1
    obtain ⟨i, hi, rfl, o_v, Bw1⟩ := hrel
    by_cases hlt : i < N
    · have hiI : 0 ≤ (i : Int) ∧ (i : Int) < (N : Int) := by omega
      have hil : i < L.length := by rw [HN.out]; exact hlt
      have HBr := Lib.hid (HB.out.step ⟨Bw1.os, Bw1.tape, Bw1.output, Bw1.size, fun k hk hn => Bw1.block k (by omega)⟩)
      obtain ⟨bb, off, cap', u, he, hbl, hcj, hu⟩ := HBr.out.open_at i hil
      rw [HN.out] at he
      cases he
      have HU := Lib.hid hu
      have HC := Lib.hid (catTo_succ (L.map bytL) i (by rw [List.length_map]; exact hil))
      have HT : Hid ((numL7 N ++ catTo (L.map bytL) i).length ≤ 140000000 ∧ L[i].length ≤ 1000000) := Lib.hid (by
        have g1 := catTo_le (L.map bytL) i
        have g3 := HLL.out
        have g5 := numL7_len N
        have g6 := in_flatten L L[i] (List.getElem_mem _)
        rw [List.length_append]
        omega)
      rw [List.getElem_map] at HC
      generalize L[i] = row at *
      have HJ := Lib.hid hlt
      obtain ⟨i1, hi1⟩ := nat_var (i + 1)
      have hwj : IntKind.i64.wrap ((i : Int) + 1) = (i1 : Int) := by rw [IntWalk.i64_in _ (by have := HL.out.2; omega)]; omega
      have HJ1 := Lib.hid hi1
      clear hi hlt hi1 hu hil
      go_wp2_with (first
        | (have hgo := HU; clear hgo
           go_at_call 43
           refine (wcounted_any _ w.heap.size _ u _ row o_v HU.out (HGS.out _ Bw1) HT.out.2 (Nat.le_trans HT.out.1 (by decide))).mono ?_
           rintro e w5 ⟨v5, rfl, o5, kk⟩
           have Bw5 := Bw1.trans kk
           rw [List.append_assoc, ← HC.out] at o5
           clear HU kk Bw1 o_v))
      go_roundw
      case rel => exact ⟨i + 1, HJ.out, by rw [HJ1.out], o5, Bw5⟩
      case measure => (have := HJ1.out; have := HJ.out; simp [intOf]; try omega)
    · obtain rfl : i = N := by omega
      have hiI : ¬ (i : Int) < (i : Int) := by omega
      rw [catTo_all _ _ (by rw [List.length_map, HN.out]; exact Nat.le_refl _)] at o_v
      have HT : Hid ((numL7 i ++ (L.map bytL).flatten).length ≤ 2147483647) := Lib.hid (by
        have g3 := HLL.out
        have g5 := numL7_len i
        rw [List.length_append]
        omega)
      clear hlt hi
      go_wp2_with (first
        | (have hgo := HT; clear hgo
           go_at_call 42
           refine (wadd_nil _ _).mono ?_
           rintro e w3 ⟨rfl, rfl⟩
           clear HT))
      go_ret
      exact ⟨rfl, Bw1⟩
end Go.Proofs.Ytllppgfajbbbaaa

/- The program's Writer: Done; it keeps what is promised. -/
namespace Go.Proofs.Ytllppgfajbbbaaa
open Go.RowKit Go.Deep
set_option linter.unusedSimpArgs false
set_option linter.unusedVariables false

/-- The last operation of a region is a copy into a row. -/
theorem linf_copyW {ops : Array Oper} {Q : Exit → Act → World → Prop} {E : World → World → Prop} {L : Nat} {a : Act} {w : World} {o : Oper} (d : Nat) (x y : Operand) (ho : ops[L]? = some o) (hd : o.dst = some d) (hop : o.op = .call { callee := .builtin .copy, args := #[x, y], argTypes := #[29, 29] }) (hw : Region.wanted o (yielded ops a.tmps) = true)
    {b m off dLen dCap : Nat} {t' : TypeId} {f : Nat → Value} (hr : w.rowIs b t' m f) {vb : Value} {l : List UInt8} (hB : Bs w vb l) (hx : a.eval x = .slice (some ⟨b, off, none⟩) dLen dCap) (hy : a.eval y = vb) (hfit : off + dLen ≤ m) (n : Nat) (hn : n = Nat.min l.length dLen)
    (h : ∀ v w', w'.rowIs b t' m (putN f off n (bytesAt l)) → w.grownBy w' (some b) → Q .normal (a.put (some d) v) w') : LinF Try.prog ops Q E L .done a w := by
  obtain ⟨w', hx', h1, h2, h3⟩ := exec_copy hr hB a.eval x y o.type hx hy hfit n hn
  show wpOp Try.prog ops Q L _ a w
  refine wpOp_step ho fun K' hK => ?_
  rw [if_pos hw]
  unfold Oper.wp
  rw [exec_mkOp, hop, hx']
  refine hK _ _ ?_
  rw [hd]
  exact h _ w' h1 h2
theorem wmakeN {ops : Array Oper} {rest : List Oper} {o : Oper} {a : Act} {w : World} {Q : Exit → Act → World → Prop} (hgd : o.guard = none) (x : Operand) (ho : o.op = .makeSlice 29 x x) (n : Nat) (hx : a.eval x = .int .i64 (n : Int)) (hn : n ≤ 2147483647)
    (h : ∀ b w', w.heap.size ≤ b → w'.rowIs b 5 n (fun _ => .int .u8 0) → Below w.heap.size w w' → wpList Try.prog ops Q rest (a.put o.dst (.slice (some ⟨b, 0, none⟩) n n)) w') : wpList Try.prog ops Q (o :: rest) a w := by
  have hm := run_make_row' (P := Try.prog) 29 5 (.int .u8 0) 1 Try.underlying29 Try.info5 rfl .i64 .i64 n (by omega) (by omega) w
  have hr : (execOp a.eval (mkOp (.makeSlice 29 x x) o.type)).run Try.prog w = .ok (.value (.slice (some ⟨w.heap.size, 0, none⟩) n n)) (w.alloc (.cells (madeCells #[.int .u8 0] n) 5)) := by
    simp [execOp, mkOp, hx, hm, Result.andThen]
  exact wpList_plain hgd fun _ hK => by
    unfold Oper.wp
    rw [exec_mkOp, ho, hr]
    exact hK _ _ (h _ _ (Nat.le_refl _) (World.rowIs_made w (.int .u8 0) n 5) ((Below.refl _ _).alloc (Nat.le_refl _) _))
/-- What is laid from E on. -/
def outF (E : Nat) (l : List UInt8) : Nat → Value := fun i => if i < E then .int .u8 0 else bytesAt l i
theorem out_put {pre b t l : List UInt8} {N E E' off n : Nat} (hl : pre ++ (b ++ t) = l) (hN : l.length = N) (hE : E = E' + b.length) (hE' : E' = pre.length) (hoff : off = E' ∨ N - E' = 0) (hn : n = Nat.min b.length (N - E')) (i : Nat) (hi : i < N) :
    outF E' l i = putN (outF E l) off n (bytesAt b) i := by
  subst hl
  have hn2 : n = b.length := by
    rw [hn]
    simp only [List.length_append] at hN
    exact Nat.min_eq_left (by omega)
  subst hn2
  simp only [List.length_append] at hN
  unfold putN outF
  by_cases h0 : N - E' = 0
  · have h1 : ¬ (off ≤ i ∧ i < off + b.length) := by omega
    have h2 : i < E' := by omega
    have h3 : i < E := by omega
    rw [if_neg h1, if_pos h2, if_pos h3]
  · have e : off = E' := hoff.resolve_right h0
    by_cases h1 : off ≤ i ∧ i < off + b.length
    · have h2 : ¬ i < E' := by omega
      rw [if_pos h1, if_neg h2]
      unfold bytesAt
      rw [List.getD_eq_getElem?_getD, List.getD_eq_getElem?_getD, List.getElem?_append_right (by omega), List.getElem?_append_left (by omega), e, hE']
    · by_cases h2 : i < E'
      · have h3 : i < E := by omega
        rw [if_neg h1, if_pos h2, if_pos h3]
      · have h3 : ¬ i < E := by omega
        rw [if_neg h1, if_neg h2, if_neg h3]
theorem exec_fromB {w : World} (ρ : Operand → Value) (x lo : Operand) (t : TypeId) {b N k off : Nat} (hx : ρ x = .slice (some ⟨b, 0, none⟩) N N) (hlo : ρ lo = .int .i64 (k : Int)) (hk : k ≤ N) (hoff : off = if N = k then 0 else k) :
    (execOp ρ (mkOp (.slice 29 x (some lo) none none) t)).run Try.prog w = .ok (.value (.slice (some ⟨b, off, none⟩) (N - k) (N - k))) w := by
  have h := run_sliceFrom (P := Try.prog) w 29 5 (some ⟨b, 0, none⟩) N N k .i64 Try.underlying29 (by kernel_rfl) hk
  have e : (if N = k then (some ⟨b, 0, none⟩ : Option Addr) else (some (⟨b, 0, none⟩ : Addr)).map (·.add k)) = some ⟨b, off, none⟩ := by
    subst hoff
    by_cases h : N = k
    · rw [if_pos h, if_pos h]
    · rw [if_neg h, if_neg h]
      simp [Addr.add]
      try omega
  rw [e] at h
  simp [execOp, mkOp, hx, hlo, h, Result.andThen]
theorem out_own {w : World} {base b N : Nat} {l : List UInt8} (h : w.rowIs b 5 N (outF 0 l)) (hb : base ≤ b) (hN : l.length = N) (hm : N ≤ maxLen) : Owns w base (.slice (some ⟨b, 0, none⟩) N N) l :=
  Owns.of_row h hb hm hN fun i hi => by
    unfold outF bytesAt
    rw [if_neg (by omega), List.getD_eq_getElem?_getD, List.getElem?_eq_getElem hi]
    rfl
set_option maxHeartbeats 4000000 in
set_option maxRecDepth 20000 in
theorem wrDone_own (O : Nat → Prop) (w : World) (y : Nat) (l : List UInt8) (hW : wrAt O w y l) (hl : l.length ≤ 200000000) : Calls Try.prog 11 #[.pointer (some ⟨y, 0, none⟩)] w fun e w' => ∃ v, e = .returned v ∧ Owns w' w.heap.size v l ∧ Below w.heap.size w w' := by
  obtain ⟨P, p, ps, hO, hPy, hPl, r_y, hps, hfl⟩ := hW
  obtain ⟨⟨x, rfl⟩, hpb⟩ := hps.ptr
  generalize hN : l.length = N at *
  have HN := Lib.hid hN
  have HPL := Lib.hid hPl
  have HPS := Lib.hid hps
  have HFL := Lib.hid hfl
  have HL := Lib.hid hl
  have HGS : Hid (∀ wq : World, Below w.heap.size w wq → w.heap.size ≤ wq.heap.size) := Lib.hid fun wq h => h.size
  have Bw0 := Below.refl w.heap.size w
  have hm0 : ¬ (N : Int) < 0 := by omega
  clear hO hPy hPl hps hfl hpb hl hN
  go_enter Try.func11, Try.ntmps11
  go_wp2_with (first
    | (have hgo := Bw0; clear hgo
       refine wpList_loadG 3 (.tmp 10) rfl rfl (.int .i64 (N : Int)) r_y rfl (by omega) rfl (by kernel_rfl) ?_)
    | (have hgo := Bw0; clear hgo
       refine wmakeN rfl (.tmp 11) rfl N rfl (by have := HL.out; omega) ?_
       intro bo w1 lo r_o kk
       have LO := Lib.hid lo
       have RO := Lib.hid r_o
       replace r_y := zrb r_y kk
       have Bw1 := kk
       clear Bw0 kk lo r_o)
    | (have hgo := Bw1; clear hgo
       refine wpList_loadG 3 (.tmp 15) rfl rfl (.int .i64 (N : Int)) r_y rfl (by omega) rfl (by kernel_rfl) ?_)
    | (have hgo := Bw1; clear hgo
       refine wpList_loadG 25 (.tmp 19) rfl rfl (.pointer x) r_y rfl (by omega) rfl (by kernel_rfl) ?_))
  go_loopw [4, 5] (fun ev pv wr => ∃ (E : Nat) (rem : List (List UInt8)) (t : List UInt8), ev = .int .i64 (E : Int) ∧ E = rem.reverse.flatten.length ∧ rem.reverse.flatten ++ t = l ∧ Parts P wr pv rem ∧ wr.rowIs bo 5 N (outF E l) ∧ Below w.heap.size w wr) (fun _ pv _ => ptrB pv)
  case atStart =>
    refine ⟨N, ps, [], rfl, by rw [HFL.out, HN.out], by rw [HFL.out, List.append_nil], Parts.stay (F := fun _ => False) (Sam.of_below Bw1) (fun b h => h.elim) _ _ HPS.out, RO.out.congr fun i hi => ?_, Bw1⟩
    unfold outF
    rw [if_pos hi]
  case round =>
    clear r_y Bw1 RO HPS
    obtain ⟨E, rem, t, rfl, hE, hl, hps, r_o, Bw1⟩ := hrel
    cases rem with
    | nil =>
      unfold Parts at hps
      subst hps
      have hE0 : E = 0 := by rw [hE]; rfl
      subst hE0
      have RO2 := Lib.hid r_o
      clear hE hl r_o
      go_wp2
      go_ret
      exact ⟨_, rfl, out_own RO2.out LO.out HN.out (by have := HL.out; unfold maxLen; omega), Bw1⟩
    | cons b rem =>
      obtain ⟨z, q, v, rfl, hz, r_z, hq, o_v, hv, hps⟩ := hps
      obtain ⟨⟨xq, rfl⟩, hxb⟩ := hps.ptr
      have o_v2 := o_v
      obtain ⟨ad, cap, rfl, _⟩ := o_v.bs
      obtain ⟨E', hE'⟩ : ∃ E', E' = rem.reverse.flatten.length := ⟨_, rfl⟩
      have hl2 : rem.reverse.flatten ++ (b ++ t) = l := by rw [← hl, List.reverse_cons, List.flatten_append]; simp
      have hEE : E = E' + b.length := by rw [hE, hE', List.reverse_cons, List.flatten_append, List.length_append]; simp
      have hEN : E' + b.length ≤ N := by
        have h := HN.out
        rw [← hl2, List.length_append, List.length_append, ← hE'] at h
        omega
      have hw : IntKind.i64.wrap ((E : Int) - (b.length : Int)) = (E' : Int) := by rw [IntWalk.i64_in _ (by have := HL.out; omega)]; omega
      obtain ⟨off, hoff⟩ : ∃ off, off = if N = E' then 0 else E' := ⟨_, rfl⟩
      obtain ⟨n, hn⟩ : ∃ n, n = Nat.min b.length (N - E') := ⟨_, rfl⟩
      have HO : Hid (off + (N - E') ≤ N ∧ (off = E' ∨ N - E' = 0)) := Lib.hid (by rw [hoff]; split <;> omega)
      have HEE := Lib.hid (And.intro hEE hEN)
      have HE' := Lib.hid hE'
      have HL2 := Lib.hid hl2
      have HOFF := Lib.hid hoff
      have HNN := Lib.hid hn
      have HZ := Lib.hid hz
      have HV := Lib.hid hv
      have HQ := Lib.hid hq
      have HPS := Lib.hid hps
      have RZ := Lib.hid r_z
      have OV := Lib.hid o_v2
      have M1 := Lib.hid hE
      have HZB : Hid (¬ z = bo) := Lib.hid (by have := HPL.out z hz; have := LO.out; omega)
      clear hE hl hps hz hv hq hxb hl2 hEE hEN hoff hn hE' r_z o_v o_v2
      go_wp2_with (first
        | (have hgo := M1; clear hgo
           refine wpList_loadG 29 (.tmp 30) rfl rfl (.slice ad b.length cap) RZ.out rfl (by omega) rfl (by kernel_rfl) ?_
           clear M1))
      refine wp_region_linf (fun u v => v = u) (fun _ => rfl) (fun _ _ _ h k => k.trans h) 7 7 (.rd 0 (.rd 1 (.rd 2 (.rd 3 (.rd 4 (.rd 5 (.rd 6 .done))))))) (by kernel_rfl) (by kernel_rfl) (by decide) (by kernel_rfl) (fun d _ _ _ _ h => by cases d <;> exact h) ?_
      refine linf_pure 34 _ _ (.slice (some ⟨bo, 0, none⟩) N N) rfl rfl rfl rfl rfl (fun wx hx => by unfold mkOp; go_simp; all_goals (with_reducible rfl)) ?_
      simp only [Act.put, zA, zB, zC]
      refine linf_pure 35 _ _ (.int .i64 (E' : Int)) rfl rfl rfl rfl rfl (fun wx hx => by unfold mkOp; go_simp; all_goals (with_reducible rfl)) ?_
      simp only [Act.put, zA, zB, zC]
      refine linf_pure 36 _ _ (.slice (some ⟨bo, off, none⟩) (N - E') (N - E')) rfl rfl rfl rfl rfl (fun wx hx => exec_fromB _ _ _ _ rfl rfl (by have := HEE.out; omega) HOFF.out) ?_
      simp only [Act.put, zA, zB, zC]
      refine linf_pure 37 _ _ (.pointer (some ⟨z, 0, none⟩)) rfl rfl rfl rfl rfl (fun wx hx => by unfold mkOp; go_simp; all_goals (with_reducible rfl)) ?_
      simp only [Act.put, zA, zB, zC]
      refine linf_pure 38 _ _ (.pointer (some ⟨z, 0, none⟩)) rfl rfl rfl rfl rfl (fun wx hx => by unfold mkOp; go_simp; all_goals (with_reducible rfl)) ?_
      simp only [Act.put, zA, zB, zC]
      refine linf_pure 39 _ _ (.pointer (some ⟨z, 1, none⟩)) rfl rfl rfl rfl rfl (fun wx hx => by unfold mkOp; go_simp; all_goals (with_reducible rfl)) ?_
      simp only [Act.put, zA, zB, zC]
      refine linf_pure 40 _ _ (.slice ad b.length cap) rfl rfl rfl rfl rfl (fun wx hx => by rw [hx]; exact exec_load_cell _ _ _ _ rfl (by kernel_rfl) (RZ.out.drew.cell (by omega))) ?_
      simp only [Act.put, zA, zB, zC]
      refine linf_copyW 41 (.tmp 36) (.tmp 40) rfl rfl rfl rfl r_o.drew (OV.out.bs.drew) rfl rfl HO.out.1 n HNN.out ?_
      intro vn w2 r_2 gk
      have S2 : Sam (· = bo) _ w2 := (Sam.refl (· = bo) _).drew.trans (Sam.of_grown gk fun b hb => by cases hb; rfl)
      have R2 := Lib.hid (Sam.row RZ.out S2 HZB.out)
      have PS2 := Lib.hid (Parts.stay S2 (fun b hb h => by rw [hb] at h; have := HPL.out bo h; have := LO.out; omega) _ _ HPS.out)
      have RO2 := Lib.hid (r_2.congr fun i hi => (out_put HL2.out HN.out HEE.out.1 HE'.out HO.out.2 HNN.out i hi).symm)
      have BW2 := Lib.hid (Bw1.trans (S2.below (fun b hb => by rw [hb]; exact LO.out) (HGS.out _ Bw1)))
      clear r_2 gk r_o Bw1
      go_wp2_with (first
        | (have hgo := S2; clear hgo
           refine wpList_loadG 25 (.tmp 25) rfl rfl (.pointer xq) R2.out rfl (by omega) rfl (by kernel_rfl) ?_))
      go_roundw
      case rel => exact ⟨E', rem, b ++ t, rfl, HE'.out, HL2.out, PS2.out, RO2.out, BW2.out⟩
      case measure => (have := HQ.out; simp [ptrB] at this ⊢; try omega)
theorem wrDone_any (O : Nat → Prop) (w : World) (y : Nat) (l : List UInt8) (hW : wrAt O w y l) (hl : l.length ≤ 200000000) : Calls Try.prog 11 #[.pointer (some ⟨y, 0, none⟩)] w fun e w' => ∃ v, e = .returned v ∧ Bs w' v l ∧ Below w.heap.size w w' :=
  (wrDone_own O w y l hW hl).mono fun e w' h => by
    obtain ⟨v, h1, h2, h3⟩ := h
    exact ⟨v, h1, h2.bs, h3⟩
set_option maxHeartbeats 4000000 in
theorem wrDone_nil (w : World) : Calls Try.prog 11 #[.pointer none] w fun e w' => e = .returned (.slice none 0 0) ∧ w' = w := by
  go_enter Try.func11, Try.ntmps11
  go_wp2
  go_ret
  exact ⟨rfl, rfl⟩
theorem wrApi : WrApi wrAt where
  stay := fun O F w w' y l h k hF => wrAt.stay O F w w' y l h k hF
  lt := fun O w y l h b hb => wrAt.lt O w y l h b hb
  num := fun O w y l n h hn hl => wrNum_any O w y l n h hn (by omega)
  bytes := fun O w y l vb b h hb hbl hl => wrBytes_any O w y l vb b h hb.bs hbl (by omega)
  list := fun O w y l vl L h hL hLl hl => wrList_any O w y l vl L h (BssK.old hL.bss (Below.refl _ _) fun b h => h) hLl hl
  fixed := fun O w y l vb b h hb hbl hl => wrFixed_any O w y l vb b h hb.bs hbl (by omega)
  done := fun O w y l h hl => wrDone_any O w y l h hl
  numN := fun w n hn => wrNum_nil w n hn
  bytesN := fun w vb b hb hbl => wrBytes_nil w vb b hb hbl
  listN := fun w vl L hL hLl => wrList_nil w vl L (BssK.old hL (Below.refl _ _) fun b h => h) hLl
  fixedN := fun w vb b hb hbl => wrFixed_nil w vb b hb hbl
  doneN := fun w => (wrDone_nil w).mono fun e w' h => ⟨_, h.1, Bs.nil _, by rw [h.2]; exact Below.refl _ _⟩
end Go.Proofs.Ytllppgfajbbbaaa

/- Reading a number back: numbers alone. -/
namespace Go.Proofs.Ytllppgfajbbbaaa
open Go.RowKit Go.Deep
set_option linter.unusedSimpArgs false
set_option linter.unusedVariables false

/-- The digits read so far, and the next one, by or. -/
theorem acc_or (V p i : Nat) (h : V < 128 ^ i) : V ||| p * 128 ^ i = V + p * 128 ^ i := by
  have e : 128 ^ i = 2 ^ (7 * i) := by rw [Nat.pow_mul]
  rw [e] at h ⊢
  rw [Nat.or_comm, Nat.mul_comm, ← Nat.two_pow_add_eq_or_of_lt h, Nat.add_comm]
theorem acc_pow (i : Nat) : 2 ^ (7 * i) = 128 ^ i := by rw [Nat.pow_mul]
/-- One digit more. -/
theorem acc_step (n V x i : Nat) (h : V + x * 128 ^ i = n) : V + x % 128 * 128 ^ i + x / 128 * 128 ^ (i + 1) = n := by
  have e : x = x % 128 + 128 * (x / 128) := (Nat.mod_add_div x 128).symm
  have g : x * 128 ^ i = x % 128 * 128 ^ i + x / 128 * 128 ^ (i + 1) := by
    conv => lhs; rw [e]
    rw [Nat.add_mul, Nat.pow_succ, Nat.mul_comm 128 (x / 128), Nat.mul_assoc, Nat.mul_comm 128 (128 ^ i)]
  omega
theorem acc_lt (V p i : Nat) (h : V < 128 ^ i) (hp : p < 128) : V + p * 128 ^ i < 128 ^ (i + 1) := by
  have g : p * 128 ^ i ≤ 127 * 128 ^ i := Nat.mul_le_mul_right _ (by omega)
  rw [Nat.pow_succ]
  omega
/-- What is added keeps below 2 ^ 64. -/
theorem acc_64 (n V x i : Nat) (h : V + x * 128 ^ i = n) (hn : n < 18446744073709551616) : x % 128 * 128 ^ i < 18446744073709551616 ∧ V + x % 128 * 128 ^ i < 18446744073709551616 := by
  have := acc_step n V x i h
  omega
/-- The digit at the place i, and what is left behind it. -/
theorem at_drop {L R : List UInt8} {B : UInt8} {i : Nat} (h : L.drop i = B :: R) : L[i]? = some B ∧ L.drop (i + 1) = R ∧ i < L.length := by
  have g : L[i]? = some B := by rw [← List.head?_drop, h]; rfl
  refine ⟨g, ?_, (List.getElem?_eq_some_iff.1 g).1⟩
  rw [show L.drop (i + 1) = (L.drop i).drop 1 by rw [List.drop_drop], h]
  rfl
/-- The tenth digit is nought or one. -/
theorem last_digit (n V x : Nat) (h : V + x * 128 ^ 9 = n) (hn : n < 18446744073709551616) : x ≤ 1 := by
  have : (128 : Nat) ^ 9 = 9223372036854775808 := by decide
  rw [this] at h
  omega
theorem or_acc (n V x i : Nat) (h : V + x * 128 ^ i = n) (hn : n < 18446744073709551616) (hV : V < 128 ^ i) : bits .or .u64 (V : Int) ((x % 128 * 128 ^ i : Nat) : Int) = ((V + x % 128 * 128 ^ i : Nat) : Int) := by
  rw [bits_or64 V _ (by have := acc_64 n V x i h hn; omega) (acc_64 n V x i h hn).1, acc_or V _ i hV]
/-- The digit shifted to its place. -/
theorem shl_acc (n V x i : Nat) (h : V + x * 128 ^ i = n) (hn : n < 18446744073709551616) (hi : i ≤ 9) : IntKind.u64.wrap (((x % 128 : Nat) : Int) * 2 ^ min (7 * i) 64) = ((x % 128 * 128 ^ i : Nat) : Int) := by
  have e : ((x % 128 : Nat) : Int) * 2 ^ min (7 * i) 64 = ((x % 128 * 128 ^ i : Nat) : Int) := by
    rw [Nat.min_eq_left (by omega), ← acc_pow, Int.natCast_mul, Int.natCast_pow]; rfl
  have g := (acc_64 n V x i h hn).1
  rw [e, IntKind.wrap_u64]
  omega
end Go.Proofs.Ytllppgfajbbbaaa

/- The program's Reader: what it is, and what it is made of. -/
namespace Go.Proofs.Ytllppgfajbbbaaa
open Go.RowKit Go.Deep
set_option linter.unusedSimpArgs false
set_option linter.unusedVariables false

/-- A reader lies at y: its bytes read as l so long as none of O but y turns. -/
def rdAt (O : Nat → Prop) (w : World) (y : Nat) (l : List UInt8) : Prop := ∃ s, O y ∧ (∀ b, O b → b < w.heap.size) ∧ w.rowIs y 73 1 (fun _ => s) ∧ BsK (fun x => ¬ O x ∨ x = y) w s l
theorem rdAt.stay (O F : Nat → Prop) (w w' : World) (y : Nat) (l : List UInt8) (h : rdAt O w y l) (k : Sam F w w') (hF : ∀ b, F b → ¬ O b) : rdAt O w' y l := by
  obtain ⟨s, h1, h2, h3, h4⟩ := h
  exact ⟨s, h1, fun b hb => Nat.lt_of_lt_of_le (h2 b hb) k.size, Sam.row h3 k (fun h => hF y h h1), h4.step (k.mono fun b _ hb => .inl (hF b hb))⟩
theorem rdAt.lt (O : Nat → Prop) (w : World) (y : Nat) (l : List UInt8) (h : rdAt O w y l) (b : Nat) (hb : O b) : b < w.heap.size := by
  obtain ⟨s, h1, h2, _⟩ := h
  exact h2 b hb
theorem takeK {M : Nat → Prop} {w : World} {v : Value} {l : List UInt8} (h : BsK M w v l) (k : Nat) (hk : k ≤ l.length) :
    ∃ v', BsK M w v' (l.take k) ∧ ∀ (ρ : Operand → Value) (x hi : Operand) (t : TypeId) (w0 : World), ρ x = v → ρ hi = .int .i64 (k : Int) → (execOp ρ (mkOp (.slice 29 x none (some hi) none) t)).run Try.prog w0 = .ok (.value v') w0 := by
  obtain ⟨ad, n, cap, rfl, hn, hc1, hc2, hB⟩ := h.bs.shape
  refine ⟨.slice ad k cap, fun w' s => (h w' s).take (k := k) (by omega), fun ρ x hi t w0 hx hh => ?_⟩
  simp [execOp, mkOp, hx, hh, run_toB (P := Try.prog) w0 29 5 ad n cap k Try.underlying29 (by kernel_rfl) (by omega), Result.andThen]
theorem dropK {M : Nat → Prop} {w : World} {v : Value} {l : List UInt8} (h : BsK M w v l) (k : Nat) (hk : k ≤ l.length) :
    ∃ v', BsK M w v' (l.drop k) ∧ ∀ (ρ : Operand → Value) (x lo : Operand) (t : TypeId) (w0 : World), ρ x = v → ρ lo = .int .i64 (k : Int) → (execOp ρ (mkOp (.slice 29 x (some lo) none none) t)).run Try.prog w0 = .ok (.value v') w0 := by
  obtain ⟨ad, n, cap, rfl, hn, hc1, hc2, hB⟩ := h.bs.shape
  refine ⟨_, fun w' s => (h w' s).drop (k := k) (by omega), fun ρ x lo t w0 hx hh => ?_⟩
  simp [execOp, mkOp, hx, hh, run_sliceFrom (P := Try.prog) w0 29 5 ad n cap k .i64 Try.underlying29 (by kernel_rfl) (by omega), Result.andThen]
theorem wpList_val {ops : Array Oper} {rest : List Oper} {o : Oper} {a : Act} {w : World} {Q : Exit → Act → World → Prop} (p : Op) (ho : o.op = p) (hgd : o.guard = none) (v : Value) (hx : (execOp a.eval (mkOp p o.type)).run Try.prog w = .ok (.value v) w)
    (h : wpList Try.prog ops Q rest (a.put o.dst v) w) : wpList Try.prog ops Q (o :: rest) a w :=
  wpList_plain hgd fun _ hK => by
    unfold Oper.wp
    rw [exec_mkOp, ho, hx]
    exact hK _ _ h
set_option maxHeartbeats 4000000 in
set_option maxRecDepth 20000 in
theorem natural_any (w : World) (n : Nat) : Calls Try.prog 49 #[.int .i64 (n : Int)] w fun e w' => e = .returned (.tuple #[]) ∧ w' = w := by
  have hn : ¬ (n : Int) < 0 := by omega
  go_enter Try.func49, Try.ntmps49
  go_wp2
  simp [bodyPost, results]
set_option maxHeartbeats 4000000 in
set_option maxRecDepth 20000 in
theorem rest_any (w : World) (y : Nat) (a : Option Addr) (n c : Nat) (r_y : w.rowIs y 73 1 (fun _ => .slice a n c)) : Calls Try.prog 47 #[.pointer (some ⟨y, 0, none⟩)] w fun e w' => e = .returned (.slice a n c) ∧ w' = w := by
  go_enter Try.func47, Try.ntmps47
  go_wp2_with (first
    | (refine wpList_loadG 29 (.tmp 7) rfl rfl (.slice a n c) r_y rfl (by omega) rfl (by kernel_rfl) ?_))
  go_ret
  exact ⟨rfl, rfl⟩
set_option maxHeartbeats 4000000 in
set_option maxRecDepth 20000 in
theorem pass_any (w : World) (y : Nat) (f : Nat → Value) (v : Value) (hv : v.oneCell' = true ∧ v.cells = #[v]) (r_y : w.rowIs y 73 1 f) : Calls Try.prog 48 #[.pointer (some ⟨y, 0, none⟩), v] w fun e w' => e = .returned (.tuple #[]) ∧ w'.rowIs y 73 1 (fun _ => v) ∧ Sam (· = y) w w' := by
  go_enter Try.func48, Try.ntmps48
  go_wp2_with (first
    | (have hgo := hv; clear hgo
       refine wpList_storeG 29 (.tmp 9) (.tmp 7) rfl rfl (fun _ => v) r_y rfl rfl (by kernel_rfl) hv.2 hv.1 (by omega) (fun j hj => by obtain rfl : j = 0 := (by omega); rfl) ?_
       intro w6 q6 s6
       clear hv))
  simp only [bodyPost]
  exact ⟨trivial, .tuple #[], by simp [results, Try.results48], rfl, q6, s6⟩
set_option maxHeartbeats 4000000 in
set_option maxRecDepth 20000 in
theorem rsplit_any (M : Nat → Prop) (w : World) (vb : Value) (b l : List UInt8) (m : Nat) (hb : BsK M w vb (b ++ l)) (hm : b.length = m) (hm2 : m ≤ 1000000) : Calls Try.prog 54 #[vb, .int .i64 (m : Int)] w fun e w' => ∃ v v', e = .returned (.tuple #[v, v']) ∧ Owns w' w.heap.size v b ∧ BsK M w' v' l ∧ Below w.heap.size w w' := by
  obtain ⟨v_t, g_t, e_t⟩ := takeK hb m (by rw [List.length_append]; omega)
  obtain ⟨v_d, g_d, e_d⟩ := dropK hb m (by rw [List.length_append]; omega)
  rw [List.take_left' hm] at g_t
  rw [List.drop_left' hm] at g_d
  obtain ⟨a, n, cap, rfl, hn, h2, h3, h4⟩ := hb.bs.shape
  have hnI : ¬ (n : Int) < (m : Int) := by rw [List.length_append] at hn; omega
  have f_t := g_t.bs
  have GD := Lib.hid g_d
  have ET := Lib.hid e_t
  have ED := Lib.hid e_d
  have HL : Hid ([b].flatten.length ≤ 2147483647) := Lib.hid (by simp; omega)
  have Bw0 := Below.refl w.heap.size w
  have HGS : Hid (∀ wq : World, Below w.heap.size w wq → w.heap.size ≤ wq.heap.size) := Lib.hid fun wq h => h.size
  clear hb g_t g_d e_t e_d hn h2 h3 h4 hm hm2
  go_enter Try.func54, Try.ntmps54
  go_wp2_with (first
    | (have hgo := Bw0; clear hgo
       go_at_call 49
       refine (natural_any _ m).mono ?_
       rintro e w1 ⟨rfl, rfl⟩
       have Bw1 := Bw0
       clear Bw0))
  replace f_t := f_t.drew
  have Bw2 := Bw1.drew
  clear Bw1
  refine wp_region_lint (.rd 0 (.rd 1 (.rd 2 (.rd 5 (.rd 6 (.rd 7 (.wr 3 (.wr 4 (.rd 8 (.rd 9 .done)))))))))) (by kernel_rfl) (by kernel_rfl) (by decide) (by kernel_rfl) (fun d _ _ _ _ h => by cases d <;> exact h) ?_
  refine lint_pure 13 _ _ (.slice a n cap) rfl rfl rfl rfl rfl (fun wx hx => by unfold mkOp; go_simp; all_goals (with_reducible rfl)) ?_
  simp only [Act.put, zA, zB, zC]
  refine lint_pure 14 _ _ (.int .i64 (m : Int)) rfl rfl rfl rfl rfl (fun wx hx => by unfold mkOp; go_simp; all_goals (with_reducible rfl)) ?_
  simp only [Act.put, zA, zB, zC]
  refine lint_pure 15 _ _ (v_t) rfl rfl rfl rfl rfl (fun wx hx => ET.out _ _ _ _ _ rfl rfl) ?_
  simp only [Act.put, zA, zB, zC]
  refine lint_pure 18 _ _ (.slice a n cap) rfl rfl rfl rfl rfl (fun wx hx => by unfold mkOp; go_simp; all_goals (with_reducible rfl)) ?_
  simp only [Act.put, zA, zB, zC]
  refine lint_pure 19 _ _ (.int .i64 (m : Int)) rfl rfl rfl rfl rfl (fun wx hx => by unfold mkOp; go_simp; all_goals (with_reducible rfl)) ?_
  simp only [Act.put, zA, zB, zC]
  refine lint_pure 20 _ _ (v_d) rfl rfl rfl rfl rfl (fun wx hx => ED.out _ _ _ _ _ rfl rfl) ?_
  simp only [Act.put, zA, zB, zC]
  refine stp_rows1 16 (.tmp 15) _ rfl rfl rfl rfl rfl f_t rfl  ?_
  intro wq16 v_16 F_r kk
  replace f_t := zfb f_t kk
  have Bw3 := zbt HGS Bw2 kk
  clear Bw2 kk
  simp only [Act.put, zA, zB, zC]
  have HWS := Lib.hid (HGS.out _ Bw3)
  refine stp_fn 17 51 _ _ _ (cat_any v_16 [b] _ F_r HL.out) rfl rfl rfl rfl Try.func51 (by kernel_rfl) (by kernel_rfl) (by go_simp) ?_
  rintro e wq17 ⟨v_17, rfl, o_17, kk⟩
  refine ⟨_, rfl, kk, ?_⟩
  clear F_r
  replace f_t := zfb f_t kk
  have Bw4 := zbt HGS Bw3 kk
  clear Bw3 kk
  simp only [Act.put, zA, zB, zC]
  refine lint_pure 4 _ _ (v_17) rfl rfl rfl rfl rfl (fun wx hx => by unfold mkOp; go_simp; all_goals (with_reducible rfl)) ?_
  simp only [Act.put, zA, zB, zC]
  refine lint_pure 5 _ _ (v_d) rfl rfl rfl rfl rfl (fun wx hx => by unfold mkOp; go_simp; all_goals (with_reducible rfl)) ?_
  simp only [Act.put, zA, zB, zC]
  refine lint_end ?_
  go_wp2
  go_ret2
  exact ⟨_, _, rfl, by simpa using Owns.lower o_17 HWS.out, GD.out.step (Sam.of_below Bw4), Bw4⟩
set_option maxHeartbeats 4000000 in
set_option maxRecDepth 20000 in
theorem rsplit_bad (w : World) (a : Option Addr) (n c m : Nat) (h : n < m) : Calls Try.prog 54 #[.slice a n c, .int .i64 (m : Int)] w fun e w' => e = .panicked [{ v := .iface 37 (.int .i64 2), recovered := false }] ∧ Below w.heap.size w w' := by
  have hnI : (n : Int) < (m : Int) := by omega
  have Bw0 := Below.refl w.heap.size w
  go_enter Try.func54, Try.ntmps54
  go_wp2_with (first
    | (have hgo := Bw0; clear hgo
       go_at_call 49
       refine (natural_any _ m).mono ?_
       rintro e w1 ⟨rfl, rfl⟩
       have Bw1 := Bw0
       clear Bw0))
  simp [bodyPost, Try.func54, Bw1]
theorem wmin {ops : Array Oper} {rest : List Oper} {o : Oper} {a : Act} {w : World} {Q : Exit → Act → World → Prop} (hgd : o.guard = none) (x y : Operand) {ts : Array TypeId} (ho : o.op = .call { callee := .builtin .min, args := #[x, y], argTypes := ts }) {k : IntKind} {i j m : Int}
    (hx : a.eval x = .int k i) (hy : a.eval y = .int k j) (hm : m = if j < i then j else i) (h : wpList Try.prog ops Q rest (a.put o.dst (.int k m)) w) : wpList Try.prog ops Q (o :: rest) a w := by
  refine wpList_value hgd (.int k m) ?_ h
  subst hm
  simp [execOp, ho, resolve, invoke, builtin, hx, hy, run_min_int2, Result.andThen]
theorem ne_nil_head {f x : Nat} {l : List UInt8} : ∃ B R, numF f x ++ l = B :: R := by
  cases f with
  | zero => exact ⟨_, _, rfl⟩
  | succ g =>
    unfold numF
    split
    · exact ⟨_, _, rfl⟩
    · exact ⟨_, _, rfl⟩
set_option maxHeartbeats 4000000 in
set_option maxRecDepth 20000 in
theorem rnumber_any (M : Nat → Prop) (w : World) (vb : Value) (n : Nat) (l : List UInt8) (hb : BsK M w vb (numL7 n ++ l)) (hn : n < 18446744073709551616) : Calls Try.prog 52 #[vb] w fun e w' => ∃ v', e = .returned (.tuple #[.int .u64 (n : Int), v']) ∧ BsK M w' v' l ∧ Below w.heap.size w w' := by
  obtain ⟨L, hL⟩ : ∃ L, L = numL7 n ++ l := ⟨_, rfl⟩
  rw [← hL] at hb
  have hLl : 0 < L.length := by
    obtain ⟨B, R, h⟩ := ne_nil_head (f := 9) (x := n) (l := l)
    rw [hL, numL7, h]
    exact Nat.succ_pos _
  obtain ⟨bb, off, cap, hs, hc1, hc2, hbl, hq⟩ := hb.bs.open_cons hLl
  subst hs
  have HQ : Hid (∀ i B, L[i]? = some B → w.cell? ⟨bb, off + i, none⟩ = some (.int .u8 (B.toNat : Int))) := Lib.hid fun i B h => by
    obtain ⟨h1, h2⟩ := List.getElem?_eq_some_iff.1 h
    rw [← h2]
    exact hq i h1
  clear hq
  have HFS := Lib.hid hb
  have FS := Lib.hid hb.bs
  have H0 : Hid (L.drop 0 = numF 9 n ++ l) := Lib.hid hL
  have HN0 := Lib.hid hn
  have HM : Hid (L.length ≤ 9223372036854775807) := Lib.hid (Nat.le_trans hc1 hc2)
  have HLP := Lib.hid hLl
  obtain ⟨K, hK⟩ : ∃ K, K = if 10 < L.length then 10 else L.length := ⟨_, rfl⟩
  have HK : Hid (K ≤ L.length ∧ K ≤ 10 ∧ (L.length ≤ K ∨ K = 10)) := Lib.hid (by rw [hK]; split <;> omega)
  generalize hN : L.length = N at *
  have HNN := Lib.hid hN
  have HKI : Hid ((K : Int) = if (10 : Int) < (N : Int) then (10 : Int) else (N : Int)) := Lib.hid (by rw [hK]; split <;> split <;> omega)
  have HGS : Hid (∀ wq : World, Below w.heap.size w wq → w.heap.size ≤ wq.heap.size) := Lib.hid fun wq h => h.size
  have Bw0 := Below.refl w.heap.size w
  clear hb hL hLl hc1 hc2 hn hN hK
  go_enter Try.func52, Try.ntmps52
  go_wp2_with (first
    | (have hgo := Bw0; clear hgo
       refine wmin rfl (.tmp 8) (.const (.int .i64 10)) rfl rfl rfl HKI.out ?_)
    | (have hgo := Bw0; clear hgo
       refine wpList_bsTo rfl (.tmp 6) (.tmp 9) rfl FS.out K rfl rfl rfl HK.out.1 HLP.out ?_
       intro ftk
       have Bw1 := Bw0
       clear Bw0 ftk))
  go_loopw [2, 12] (fun vv iv wr => ∃ (f x i V : Nat), vv = .int .u64 (V : Int) ∧ iv = .int .i64 (i : Int) ∧ i + f = 9 ∧ L.drop i = numF f x ++ l ∧ V + x * 128 ^ i = n ∧ V < 128 ^ i ∧ (i = 0 ∨ 0 < x) ∧ wr = w) (fun _ iv _ => 10 - (intOf iv).toNat)
  case atStart => exact ⟨9, n, 0, 0, rfl, rfl, rfl, H0.out, by omega, by decide, .inl rfl, rfl⟩
  case round =>
    obtain ⟨f, x, i, V, rfl, rfl, hif, hD, hV, hVl, hix, rfl⟩ := hrel
    by_cases hx128 : x < 128
    · have e0 : numF f x = [UInt8.ofNat x] := numF_small f x hx128
      rw [e0] at hD
      obtain ⟨g1, g2, g3⟩ := at_drop hD
      have g2 : L.drop (i + 1) = l := g2
      obtain ⟨v_d, g_d, e_d⟩ := dropK HFS.out (i + 1) (by omega)
      rw [g2] at g_d
      have GD := Lib.hid g_d
      have ED := Lib.hid e_d
      have hcr := HQ.out i _ g1
      rw [UInt8.toNat_ofNat_of_lt' (by show x < 256; omega)] at hcr
      have hiK : i < K := by have := HK.out; have := HNN.out; omega
      have hiI : (i : Int) < (K : Int) := by omega
      have hIN : 0 ≤ (i : Int) ∧ (i : Int) < (K : Int) := by omega
      obtain ⟨k, hk⟩ := nat_var (7 * i)
      obtain ⟨Y, hY⟩ := nat_var (x % 128 * 128 ^ i)
      have eE := acc_step n V x i hV
      have hdiv : x / 128 = 0 := by omega
      rw [hdiv, Nat.zero_mul, Nat.add_zero, ← hY] at eE
      have a1 : (x : Int) % 128 = (x : Int) := by omega
      have a1t : (x : Int).tmod 128 = (x : Int) := by rw [Int.tmod_eq_emod_of_nonneg (by omega)]; omega
      have a2 : IntKind.u64.wrap (x : Int) = (x : Int) := by rw [IntKind.wrap_u64]; omega
      have a3 : IntKind.i64.wrap (7 * (i : Int)) = (k : Int) := by rw [IntWalk.i64_in _ (by omega)]; omega
      have a4 : IntKind.u64.wrap ((x : Int) * 2 ^ min k 64) = (Y : Int) := by
        have := shl_acc n V x i hV HN0.out (by omega)
        rw [← hk, ← hY] at this
        rwa [Nat.mod_eq_of_lt hx128] at this
      have a5 : bits .or .u64 (V : Int) (Y : Int) = (n : Int) := by
        have := or_acc n V x i hV HN0.out hVl
        rw [← hY] at this
        rw [this, eE]
      have a6 : IntKind.i64.wrap ((i : Int) + 1) = ((i + 1 : Nat) : Int) := by rw [IntWalk.i64_in _ (by omega)]; omega
      have hlt8 : ¬ (128 : Int) ≤ (x : Int) := by omega
      have hxl : i = 9 → x ≤ 1 := fun h => by subst h; exact last_digit n V x hV HN0.out
      clear hD g1 g2 g3 g_d e_d hV hVl hY hk eE hdiv e0
      by_cases hi9 : i = 9
      · have hi9I : ((i : Int) = 9) = True := eq_true (by omega)
        have b2 : (0 : Int) < (i : Int) := by omega
        have b1 : ¬ (1 : Int) < (x : Int) := by have := hxl hi9; omega
        have b0 : ¬ (x : Int) = 0 := by omega
        clear hi9 hif hix hx128 hxl hiK
        go_wp2
        have Bw2 := Bw1.drew
        clear Bw1
        refine wp_region_lint (.rd 0 (.rd 1 (.rd 2 (.rd 3 (.rd 4 (.rd 5 (.rd 6 .done))))))) (by kernel_rfl) (by kernel_rfl) (by decide) (by kernel_rfl) (fun d _ _ _ _ h => by cases d <;> exact h) ?_
        refine lint_pure 42 _ _ (.int .u64 (n : Int)) rfl rfl rfl rfl rfl (fun wx hx => by unfold mkOp; go_simp; all_goals (with_reducible rfl)) ?_
        simp only [Act.put, zA, zB, zC]
        refine lint_pure 43 _ _ (.slice (some ⟨bb, off, none⟩) N cap) rfl rfl rfl rfl rfl (fun wx hx => by unfold mkOp; go_simp; all_goals (with_reducible rfl)) ?_
        simp only [Act.put, zA, zB, zC]
        refine lint_pure 44 _ _ (.int .i64 (i : Int)) rfl rfl rfl rfl rfl (fun wx hx => by unfold mkOp; go_simp; all_goals (with_reducible rfl)) ?_
        simp only [Act.put, zA, zB, zC]
        refine lint_pure 45 _ _ (.int .i64 ((i + 1 : Nat) : Int)) rfl rfl rfl rfl rfl (fun wx hx => by unfold mkOp; go_simp; all_goals (with_reducible rfl)) ?_
        simp only [Act.put, zA, zB, zC]
        refine lint_pure 46 _ _ (v_d) rfl rfl rfl rfl rfl (fun wx hx => by exact ED.out _ _ _ _ _ rfl rfl) ?_
        simp only [Act.put, zA, zB, zC]
        refine lint_pure 2 _ _ (.int .u64 (n : Int)) rfl rfl rfl rfl rfl (fun wx hx => by unfold mkOp; go_simp; all_goals (with_reducible rfl)) ?_
        simp only [Act.put, zA, zB, zC]
        refine lint_pure 3 _ _ (v_d) rfl rfl rfl rfl rfl (fun wx hx => by unfold mkOp; go_simp; all_goals (with_reducible rfl)) ?_
        simp only [Act.put, zA, zB, zC]
        refine lint_end ?_
        go_wp2
        go_ret2
        exact ⟨_, rfl, GD.out.step (Sam.of_below Bw2), Bw2⟩
      · have hi9I : ¬ (i : Int) = 9 := by omega
        by_cases hi0 : i = 0
        · have b2 : ¬ (0 : Int) < (i : Int) := by omega
          clear hi9 hif hix hx128 hxl hi0 hiK
          go_wp2
          have Bw2 := Bw1.drew
          clear Bw1
          refine wp_region_lint (.rd 0 (.rd 1 (.rd 2 (.rd 3 (.rd 4 (.rd 5 (.rd 6 .done))))))) (by kernel_rfl) (by kernel_rfl) (by decide) (by kernel_rfl) (fun d _ _ _ _ h => by cases d <;> exact h) ?_
          refine lint_pure 42 _ _ (.int .u64 (n : Int)) rfl rfl rfl rfl rfl (fun wx hx => by unfold mkOp; go_simp; all_goals (with_reducible rfl)) ?_
          simp only [Act.put, zA, zB, zC]
          refine lint_pure 43 _ _ (.slice (some ⟨bb, off, none⟩) N cap) rfl rfl rfl rfl rfl (fun wx hx => by unfold mkOp; go_simp; all_goals (with_reducible rfl)) ?_
          simp only [Act.put, zA, zB, zC]
          refine lint_pure 44 _ _ (.int .i64 (i : Int)) rfl rfl rfl rfl rfl (fun wx hx => by unfold mkOp; go_simp; all_goals (with_reducible rfl)) ?_
          simp only [Act.put, zA, zB, zC]
          refine lint_pure 45 _ _ (.int .i64 ((i + 1 : Nat) : Int)) rfl rfl rfl rfl rfl (fun wx hx => by unfold mkOp; go_simp; all_goals (with_reducible rfl)) ?_
          simp only [Act.put, zA, zB, zC]
          refine lint_pure 46 _ _ (v_d) rfl rfl rfl rfl rfl (fun wx hx => by exact ED.out _ _ _ _ _ rfl rfl) ?_
          simp only [Act.put, zA, zB, zC]
          refine lint_pure 2 _ _ (.int .u64 (n : Int)) rfl rfl rfl rfl rfl (fun wx hx => by unfold mkOp; go_simp; all_goals (with_reducible rfl)) ?_
          simp only [Act.put, zA, zB, zC]
          refine lint_pure 3 _ _ (v_d) rfl rfl rfl rfl rfl (fun wx hx => by unfold mkOp; go_simp; all_goals (with_reducible rfl)) ?_
          simp only [Act.put, zA, zB, zC]
          refine lint_end ?_
          go_wp2
          go_ret2
          exact ⟨_, rfl, GD.out.step (Sam.of_below Bw2), Bw2⟩
        · have b2 : (0 : Int) < (i : Int) := by omega
          have b0 : ¬ (x : Int) = 0 := by omega
          clear hi9 hif hix hx128 hxl hi0 hiK
          go_wp2
          have Bw2 := Bw1.drew
          clear Bw1
          refine wp_region_lint (.rd 0 (.rd 1 (.rd 2 (.rd 3 (.rd 4 (.rd 5 (.rd 6 .done))))))) (by kernel_rfl) (by kernel_rfl) (by decide) (by kernel_rfl) (fun d _ _ _ _ h => by cases d <;> exact h) ?_
          refine lint_pure 42 _ _ (.int .u64 (n : Int)) rfl rfl rfl rfl rfl (fun wx hx => by unfold mkOp; go_simp; all_goals (with_reducible rfl)) ?_
          simp only [Act.put, zA, zB, zC]
          refine lint_pure 43 _ _ (.slice (some ⟨bb, off, none⟩) N cap) rfl rfl rfl rfl rfl (fun wx hx => by unfold mkOp; go_simp; all_goals (with_reducible rfl)) ?_
          simp only [Act.put, zA, zB, zC]
          refine lint_pure 44 _ _ (.int .i64 (i : Int)) rfl rfl rfl rfl rfl (fun wx hx => by unfold mkOp; go_simp; all_goals (with_reducible rfl)) ?_
          simp only [Act.put, zA, zB, zC]
          refine lint_pure 45 _ _ (.int .i64 ((i + 1 : Nat) : Int)) rfl rfl rfl rfl rfl (fun wx hx => by unfold mkOp; go_simp; all_goals (with_reducible rfl)) ?_
          simp only [Act.put, zA, zB, zC]
          refine lint_pure 46 _ _ (v_d) rfl rfl rfl rfl rfl (fun wx hx => by exact ED.out _ _ _ _ _ rfl rfl) ?_
          simp only [Act.put, zA, zB, zC]
          refine lint_pure 2 _ _ (.int .u64 (n : Int)) rfl rfl rfl rfl rfl (fun wx hx => by unfold mkOp; go_simp; all_goals (with_reducible rfl)) ?_
          simp only [Act.put, zA, zB, zC]
          refine lint_pure 3 _ _ (v_d) rfl rfl rfl rfl rfl (fun wx hx => by unfold mkOp; go_simp; all_goals (with_reducible rfl)) ?_
          simp only [Act.put, zA, zB, zC]
          refine lint_end ?_
          go_wp2
          go_ret2
          exact ⟨_, rfl, GD.out.step (Sam.of_below Bw2), Bw2⟩
    · obtain ⟨g, rfl⟩ : ∃ g, f = g + 1 := by
        cases f with
        | zero =>
          obtain rfl : i = 9 := by omega
          have := last_digit n V x hV HN0.out
          omega
        | succ g => exact ⟨g, rfl⟩
      have e0 : numF (g + 1) x = UInt8.ofNat (x % 128 + 128) :: numF g (x / 128) := if_neg hx128
      rw [e0] at hD
      obtain ⟨g1, g2, g3⟩ := at_drop hD
      have g2 : L.drop (i + 1) = numF g (x / 128) ++ l := g2
      have hcr := HQ.out i _ g1
      rw [UInt8.toNat_ofNat_of_lt' (by show x % 128 + 128 < 256; omega)] at hcr
      have hiK : i < K := by have := HK.out; have := HNN.out; omega
      have hiI : (i : Int) < (K : Int) := by omega
      have hIN : 0 ≤ (i : Int) ∧ (i : Int) < (K : Int) := by omega
      obtain ⟨k, hk⟩ := nat_var (7 * i)
      obtain ⟨Y, hY⟩ := nat_var (x % 128 * 128 ^ i)
      obtain ⟨i1, hi1⟩ := nat_var (i + 1)
      have eE := acc_step n V x i hV
      have eL := acc_lt V (x % 128) i hVl (by omega)
      have a4' := shl_acc n V x i hV HN0.out (by omega)
      have a5' := or_acc n V x i hV HN0.out hVl
      obtain ⟨p, hp⟩ := nat_var (x % 128)
      obtain ⟨c, hc8⟩ := nat_var (p + 128)
      have hpl : p < 128 := by omega
      rw [← hY, ← hi1] at eE
      rw [← hY, ← hi1] at eL
      rw [← hY, ← hk, ← hp] at a4'
      rw [← hY] at a5'
      rw [← hp, ← hc8] at hcr
      obtain ⟨V1, hV1⟩ := nat_var (V + Y)
      rw [← hV1] at eE eL a5'
      have a1 : (c : Int) % 128 = (p : Int) := by omega
      have a1t : (c : Int).tmod 128 = (p : Int) := by rw [Int.tmod_eq_emod_of_nonneg (by omega)]; omega
      have a2 : IntKind.u64.wrap (p : Int) = (p : Int) := by rw [IntKind.wrap_u64]; omega
      have a3 : IntKind.i64.wrap (7 * (i : Int)) = (k : Int) := by rw [IntWalk.i64_in _ (by omega)]; omega
      have a6 : IntKind.i64.wrap ((i : Int) + 1) = (i1 : Int) := by rw [IntWalk.i64_in _ (by omega)]; omega
      have hlt8 : (128 : Int) ≤ (c : Int) := by omega
      rw [← hi1] at g2
      have HREL : Hid (i1 + g = 9 ∧ L.drop i1 = numF g (x / 128) ++ l ∧ V1 + x / 128 * 128 ^ i1 = n ∧ V1 < 128 ^ i1 ∧ (i1 = 0 ∨ 0 < x / 128) ∧ i1 = i + 1 ∧ i ≤ 8) := Lib.hid ⟨by omega, g2, eE, eL, .inr (by omega), hi1, by omega⟩
      clear hD g1 g2 g3 hV hVl hY hk eE eL e0 hif hix hx128 hp hc8 hpl hV1 hi1 hiK
      go_wp2
      go_roundw
      case rel => exact ⟨g, x / 128, i1, V1, rfl, rfl, HREL.out.1, HREL.out.2.1, HREL.out.2.2.1, HREL.out.2.2.2.1, HREL.out.2.2.2.2.1, by first | trivial | rfl⟩
      case measure => (have := HREL.out.2.2.2.2.2; simp [intOf]; try omega)
set_option maxHeartbeats 4000000 in
set_option maxRecDepth 20000 in
theorem rnumber_bad (w : World) (a : Option Addr) (c : Nat) (hb : Bs w (.slice a 0 c) []) : Calls Try.prog 52 #[.slice a 0 c] w fun e w' => e = .panicked [{ v := .iface 37 (.int .i64 2), recovered := false }] ∧ w' = w := by
  obtain ⟨v_t, g_t, e_t⟩ := takeK (BsK.old (M := fun x => w.heap.size ≤ x) hb (Below.refl _ _) fun b h => h) 0 (Nat.le_refl _)
  obtain ⟨a2, n2, c2, rfl, hn, h2, h3, h4⟩ := g_t.bs.shape
  obtain rfl : n2 = 0 := by simp at hn; omega
  have ET := Lib.hid e_t
  have Bw0 := Below.refl w.heap.size w
  clear hb g_t e_t hn h2 h3 h4
  go_enter Try.func52, Try.ntmps52
  go_wp2_with (first
    | (have hgo := Bw0; clear hgo
       refine wmin rfl (.tmp 8) (.const (.int .i64 10)) rfl (m := 0) rfl rfl (by decide) ?_)
    | (have hgo := Bw0; clear hgo
       refine wpList_val (.slice 29 (.tmp 6) none (some (.tmp 9)) none) rfl rfl (.slice a2 0 c2) (ET.out _ _ _ _ _ rfl rfl) ?_
       clear Bw0))
  go_loopw [2, 12] (fun vv iv wr => vv = .int .u64 0 ∧ iv = .int .i64 0 ∧ wr = w) (fun _ iv _ => 10 - (intOf iv).toNat)
  case atStart => exact ⟨rfl, rfl, rfl⟩
  case round =>
    obtain ⟨rfl, rfl, rfl⟩ := hrel
    go_wp2
    simp [bodyPost, Try.func52]
end Go.Proofs.Ytllppgfajbbbaaa

/- The program's Reader: howMany, limited, Num, Bytes, Fixed, List. -/
namespace Go.Proofs.Ytllppgfajbbbaaa
open Go.RowKit Go.Deep
set_option linter.unusedSimpArgs false
set_option linter.unusedVariables false

set_option maxHeartbeats 4000000 in
set_option maxRecDepth 20000 in
theorem howMany_ok (M : Nat → Prop) (w : World) (vb : Value) (n m : Nat) (l : List UInt8) (hb : BsK M w vb (numL7 n ++ l)) (hn : n < 18446744073709551616) (hm2 : m ≤ 1000000) (hm : n ≤ m) : Calls Try.prog 50 #[vb, .int .i64 (m : Int)] w fun e w' => ∃ v', e = .returned (.tuple #[.int .i64 (n : Int), v']) ∧ BsK M w' v' l ∧ Below w.heap.size w w' := by
  have HB := Lib.hid hb
  have HN := Lib.hid hn
  have Bw0 := Below.refl w.heap.size w
  have hw1 : IntKind.u64.wrap (m : Int) = (m : Int) := by rw [IntKind.wrap_u64]; omega
  have hw2 : IntKind.i64.wrap (n : Int) = (n : Int) := by rw [IntWalk.i64_in _ (by omega)]
  have hc : ¬ (m : Int) < (n : Int) := by omega
  clear hb hn hm hm2
  go_enter Try.func50, Try.ntmps50
  go_wp2_with (first
    | (have hgo := Bw0; clear hgo
       go_at_call 49
       refine (natural_any _ m).mono ?_
       rintro e w1 ⟨rfl, rfl⟩
       have Bw1 := Bw0
       clear Bw0)
    | (have hgo := Bw1; clear hgo
       go_at_call 52
       refine (rnumber_any M _ vb n l HB.out HN.out).mono ?_
       rintro e w2 ⟨v2, rfl, g2, kk⟩
       have G2 := Lib.hid g2
       have Bw2 := kk
       clear Bw1 kk g2 HB))
  go_ret2
  exact ⟨_, rfl, G2.out, Bw2⟩
set_option maxHeartbeats 4000000 in
set_option maxRecDepth 20000 in
theorem howMany_big (M : Nat → Prop) (w : World) (vb : Value) (n m : Nat) (l : List UInt8) (hb : BsK M w vb (numL7 n ++ l)) (hn : n < 18446744073709551616) (hm2 : m ≤ 1000000) (hm : m < n) : Calls Try.prog 50 #[vb, .int .i64 (m : Int)] w fun e w' => e = .panicked [{ v := .iface 37 (.int .i64 11), recovered := false }] ∧ Below w.heap.size w w' := by
  have HB := Lib.hid hb
  have HN := Lib.hid hn
  have Bw0 := Below.refl w.heap.size w
  have hw1 : IntKind.u64.wrap (m : Int) = (m : Int) := by rw [IntKind.wrap_u64]; omega
  have hc : (m : Int) < (n : Int) := by omega
  clear hb hn hm hm2
  go_enter Try.func50, Try.ntmps50
  go_wp2_with (first
    | (have hgo := Bw0; clear hgo
       go_at_call 49
       refine (natural_any _ m).mono ?_
       rintro e w1 ⟨rfl, rfl⟩
       have Bw1 := Bw0
       clear Bw0)
    | (have hgo := Bw1; clear hgo
       go_at_call 52
       refine (rnumber_any M _ vb n l HB.out HN.out).mono ?_
       rintro e w2 ⟨v2, rfl, g2, kk⟩
       have G2 := Lib.hid g2
       have Bw2 := kk
       clear Bw1 kk g2 HB))
  simp [bodyPost, Try.func50, Bw2]
set_option maxHeartbeats 4000000 in
set_option maxRecDepth 20000 in
theorem howMany_bad (w : World) (a : Option Addr) (c m : Nat) (hb : Bs w (.slice a 0 c) []) : Calls Try.prog 50 #[.slice a 0 c, .int .i64 (m : Int)] w fun e w' => e = .panicked [{ v := .iface 37 (.int .i64 2), recovered := false }] ∧ Below w.heap.size w w' := by
  have HB := Lib.hid hb
  have Bw0 := Below.refl w.heap.size w
  clear hb
  go_enter Try.func50, Try.ntmps50
  go_wp2_with (first
    | (have hgo := Bw0; clear hgo
       go_at_call 49
       refine (natural_any _ m).mono ?_
       rintro e w1 ⟨rfl, rfl⟩
       have Bw1 := Bw0
       clear Bw0)
    | (have hgo := Bw1; clear hgo
       go_at_call 52
       refine (rnumber_bad _ a c HB.out).mono ?_
       rintro e w2 ⟨rfl, rfl⟩))
  simp [bodyPost, Try.func50, Bw1]
set_option maxHeartbeats 4000000 in
set_option maxRecDepth 20000 in
theorem limited_ok (M : Nat → Prop) (w : World) (vb : Value) (b l : List UInt8) (m : Nat) (hb : BsK M w vb (bytL b ++ l)) (hm : b.length ≤ m) (hm2 : m ≤ 1000000) : Calls Try.prog 46 #[vb, .int .i64 (m : Int)] w fun e w' => ∃ v v', e = .returned (.tuple #[v, v']) ∧ Owns w' w.heap.size v b ∧ BsK M w' v' l ∧ Below w.heap.size w w' := by
  have HB : Hid (BsK M w vb (numL7 b.length ++ (b ++ l))) := Lib.hid (by rw [← List.append_assoc]; exact hb)
  have HN : Hid (b.length < 18446744073709551616 ∧ b.length ≤ m ∧ m ≤ 1000000 ∧ b.length ≤ 1000000) := Lib.hid (by omega)
  have Bw0 := Below.refl w.heap.size w
  clear hb hm hm2
  go_enter Try.func46, Try.ntmps46
  go_wp2_with (first
    | (have hgo := Bw0; clear hgo
       go_at_call 50
       refine (howMany_ok M _ vb b.length m (b ++ l) HB.out HN.out.1 HN.out.2.2.1 HN.out.2.1).mono ?_
       rintro e w2 ⟨v2, rfl, g2, kk⟩
       have Bw2 := kk
       clear Bw0 kk HB)
    | (have hgo := Bw2; clear hgo
       go_at_call 54
       refine (rsplit_any M _ v2 b l b.length g2 rfl HN.out.2.2.2).mono ?_
       rintro e w3 ⟨v3, v4, rfl, o3, g3, kk⟩
       have HO := Lib.hid (Owns.lower o3 Bw2.size)
       have G3 := Lib.hid g3
       have Bw3 := Bw2.trans (kk.mono Bw2.size)
       clear Bw2 kk g2 o3 g3))
  go_ret2
  exact ⟨_, _, rfl, HO.out, G3.out, Bw3⟩
set_option maxHeartbeats 4000000 in
set_option maxRecDepth 20000 in
theorem limited_big (M : Nat → Prop) (w : World) (vb : Value) (n m : Nat) (l : List UInt8) (hb : BsK M w vb (numL7 n ++ l)) (hn : n < 18446744073709551616) (hm2 : m ≤ 1000000) (hm : m < n) : Calls Try.prog 46 #[vb, .int .i64 (m : Int)] w fun e w' => e = .panicked [{ v := .iface 37 (.int .i64 11), recovered := false }] ∧ Below w.heap.size w w' := by
  have HB := Lib.hid hb
  have HN := Lib.hid (And.intro hn (And.intro hm2 hm))
  have Bw0 := Below.refl w.heap.size w
  clear hb hn hm hm2
  go_enter Try.func46, Try.ntmps46
  go_wp2_with (first
    | (have hgo := Bw0; clear hgo
       go_at_call 50
       refine (howMany_big M _ vb n m l HB.out HN.out.1 HN.out.2.1 HN.out.2.2).mono ?_
       rintro e w2 ⟨rfl, kk⟩
       have Bw2 := kk
       clear Bw0 kk HB))
  simp [bodyPost, Try.func46, Bw2]
set_option maxHeartbeats 4000000 in
set_option maxRecDepth 20000 in
theorem limited_bad (w : World) (a : Option Addr) (c m : Nat) (hb : Bs w (.slice a 0 c) []) : Calls Try.prog 46 #[.slice a 0 c, .int .i64 (m : Int)] w fun e w' => e = .panicked [{ v := .iface 37 (.int .i64 2), recovered := false }] ∧ Below w.heap.size w w' := by
  have HB := Lib.hid hb
  have Bw0 := Below.refl w.heap.size w
  clear hb
  go_enter Try.func46, Try.ntmps46
  go_wp2_with (first
    | (have hgo := Bw0; clear hgo
       go_at_call 50
       refine (howMany_bad _ a c m HB.out).mono ?_
       rintro e w2 ⟨rfl, kk⟩
       have Bw2 := kk
       clear Bw0 kk HB))
  simp [bodyPost, Try.func46, Bw2]
set_option maxHeartbeats 4000000 in
set_option maxRecDepth 20000 in
theorem limited_short (M : Nat → Prop) (w : World) (vb : Value) (n m : Nat) (l : List UInt8) (hb : BsK M w vb (numL7 n ++ l)) (hn : n < 18446744073709551616) (hm2 : m ≤ 1000000) (hm : n ≤ m) (hl : l.length < n) : Calls Try.prog 46 #[vb, .int .i64 (m : Int)] w fun e w' => e = .panicked [{ v := .iface 37 (.int .i64 2), recovered := false }] ∧ Below w.heap.size w w' := by
  have HB := Lib.hid hb
  have HN := Lib.hid (And.intro hn (And.intro hm2 hm))
  have HLS := Lib.hid hl
  have Bw0 := Below.refl w.heap.size w
  clear hb hn hm hm2 hl
  go_enter Try.func46, Try.ntmps46
  go_wp2_with (first
    | (have hgo := Bw0; clear hgo
       go_at_call 50
       refine (howMany_ok M _ vb n m l HB.out HN.out.1 HN.out.2.1 HN.out.2.2).mono ?_
       rintro e w2 ⟨v2, rfl, g2, kk⟩
       have Bw2 := kk
       obtain ⟨a2, n2, c2, rfl, q1, q2, q3, q4⟩ := g2.bs.shape
       have HQ : Hid (n2 < n) := Lib.hid (by have := HLS.out; omega)
       clear Bw0 kk HB g2 q1 q2 q3 q4)
    | (have hgo := Bw2; clear hgo
       go_at_call 54
       refine (rsplit_bad _ a2 n2 c2 n HQ.out).mono ?_
       rintro e w3 ⟨rfl, kk⟩
       have Bw3 := Bw2.trans (kk.mono Bw2.size)
       clear Bw2 kk))
  simp [bodyPost, Try.func46, Bw3]
/-- What reading leaves of a reader. -/
theorem rd_new {O : Nat → Prop} {w w1 w2 : World} {y : Nat} {v : Value} {l : List UInt8} (hy : O y) (hlt : ∀ b, O b → b < w.heap.size) (k1 : Below w.heap.size w w1) (g : BsK (fun x => ¬ O x ∨ x = y) w1 v l) (q : w2.rowIs y 73 1 (fun _ => v)) (s : Sam (· = y) w1 w2) : WrNew rdAt O w y l w2 :=
  ⟨O, ⟨v, hy, fun b hb => Nat.lt_of_lt_of_le (hlt b hb) (Nat.le_trans k1.size s.size), q, g.step (s.mono fun b _ h => .inr h)⟩, (Sam.of_below k1).trans (s.mono fun b _ h => h ▸ hy), fun b h => .inl h⟩
set_option maxHeartbeats 4000000 in
set_option maxRecDepth 20000 in
theorem rdNum_any (O : Nat → Prop) (w : World) (y n : Nat) (l : List UInt8) (hR : rdAt O w y (numL7 n ++ l)) (hn : n < 18446744073709551616) : Calls Try.prog 32 #[.pointer (some ⟨y, 0, none⟩)] w fun e w' => e = .returned (.int .u64 (n : Int)) ∧ WrNew rdAt O w y l w' := by
  have HN := Lib.hid hn
  obtain ⟨s, hy, hlt, r_y, f_s⟩ := hR
  obtain ⟨a, n0, cap, rfl, hn0, q2, q3, q4⟩ := f_s.bs.shape
  have HY := Lib.hid hy
  have HLT := Lib.hid hlt
  have HB := Lib.hid f_s
  have Bw0 := Below.refl w.heap.size w
  have HBS : Hid (∀ {w1 : World}, Below w.heap.size w w1 → BsK (fun x => ¬ O x ∨ x = y) w1 (.slice a n0 cap) (numL7 n ++ l)) := Lib.hid fun k => HB.out.step (Sam.of_below k)
  clear hy hlt f_s hn0 q2 q3 q4
  clear hn
  go_enter Try.func32, Try.ntmps32
  go_wp2_with (first
    | (have hgo := Bw0; clear hgo
       go_at_call 47
       refine (rest_any _ y a n0 cap r_y).mono ?_
       rintro e w1 ⟨rfl, rfl⟩
       have Bw1 := Bw0
       clear Bw0)
    | (have hgo := Bw1; clear hgo
       go_at_call 52
       refine (rnumber_any _ _ _ n l (HBS.out Bw1) HN.out).mono ?_
       rintro e w2 ⟨v2, rfl, g2, kk⟩
       have Bw2 := Bw1.trans (kk.mono Bw1.size)
       replace r_y := zrb r_y kk
       clear Bw1 kk)
    | (have hgo := Bw2; clear hgo
       go_at_call 48
       refine (pass_any _ y _ v2 g2.cell r_y).mono ?_
       rintro e w6 ⟨rfl, q6, s6⟩
       have HW := Lib.hid (rd_new HY.out HLT.out Bw2 g2 q6 s6)
       clear Bw2 q6 s6 r_y g2))
  go_ret
  exact ⟨rfl, HW.out⟩
set_option maxHeartbeats 4000000 in
set_option maxRecDepth 20000 in
theorem rdBytes_any (O : Nat → Prop) (w : World) (y m : Nat) (b l : List UInt8) (hR : rdAt O w y (bytL b ++ l)) (hm : b.length ≤ m) (hm2 : m ≤ 1000000) : Calls Try.prog 24 #[.pointer (some ⟨y, 0, none⟩), .int .i64 (m : Int)] w fun e w' => ∃ v, e = .returned v ∧ Owns w' w.heap.size v b ∧ WrNew rdAt O w y l w' := by
  have HM := Lib.hid (And.intro hm hm2)
  obtain ⟨s, hy, hlt, r_y, f_s⟩ := hR
  obtain ⟨a, n0, cap, rfl, hn0, q2, q3, q4⟩ := f_s.bs.shape
  have HY := Lib.hid hy
  have HLT := Lib.hid hlt
  have HB := Lib.hid f_s
  have Bw0 := Below.refl w.heap.size w
  have HBS : Hid (∀ {w1 : World}, Below w.heap.size w w1 → BsK (fun x => ¬ O x ∨ x = y) w1 (.slice a n0 cap) (bytL b ++ l)) := Lib.hid fun k => HB.out.step (Sam.of_below k)
  clear hy hlt f_s hn0 q2 q3 q4
  clear hm hm2
  go_enter Try.func24, Try.ntmps24
  go_wp2_with (first
    | (have hgo := Bw0; clear hgo
       go_at_call 47
       refine (rest_any _ y a n0 cap r_y).mono ?_
       rintro e w1 ⟨rfl, rfl⟩
       have Bw1 := Bw0
       clear Bw0)
    | (have hgo := Bw1; clear hgo
       go_at_call 46
       refine (limited_ok _ _ _ b l m (HBS.out Bw1) HM.out.1 HM.out.2).mono ?_
       rintro e w2 ⟨v1, v2, rfl, o2, g2, kk⟩
       have Bw2 := Bw1.trans (kk.mono Bw1.size)
       replace o2 := Owns.lower o2 Bw1.size
       replace r_y := zrb r_y kk
       clear Bw1 kk)
    | (have hgo := Bw2; clear hgo
       go_at_call 48
       refine (pass_any _ y _ v2 g2.cell r_y).mono ?_
       rintro e w6 ⟨rfl, q6, s6⟩
       have HW := Lib.hid (rd_new HY.out HLT.out Bw2 g2 q6 s6)
       have HO := Lib.hid (o2.sam s6 (fun b hb e => by have h7 := Owns.block o2 b hb; have h8 := HLT.out y HY.out; omega))
       clear Bw2 q6 s6 r_y g2 o2))
  go_ret
  exact ⟨_, rfl, HO.out, HW.out⟩
set_option maxHeartbeats 4000000 in
set_option maxRecDepth 20000 in
theorem rdFixed_any (O : Nat → Prop) (w : World) (y m : Nat) (b l : List UInt8) (hR : rdAt O w y (b ++ l)) (hm : b.length = m) (hm2 : m ≤ 1000000) : Calls Try.prog 40 #[.pointer (some ⟨y, 0, none⟩), .int .i64 (m : Int)] w fun e w' => ∃ v, e = .returned v ∧ Owns w' w.heap.size v b ∧ WrNew rdAt O w y l w' := by
  have HM := Lib.hid (And.intro hm hm2)
  obtain ⟨s, hy, hlt, r_y, f_s⟩ := hR
  obtain ⟨a, n0, cap, rfl, hn0, q2, q3, q4⟩ := f_s.bs.shape
  have HY := Lib.hid hy
  have HLT := Lib.hid hlt
  have HB := Lib.hid f_s
  have Bw0 := Below.refl w.heap.size w
  have HBS : Hid (∀ {w1 : World}, Below w.heap.size w w1 → BsK (fun x => ¬ O x ∨ x = y) w1 (.slice a n0 cap) (b ++ l)) := Lib.hid fun k => HB.out.step (Sam.of_below k)
  clear hy hlt f_s hn0 q2 q3 q4
  clear hm hm2
  go_enter Try.func40, Try.ntmps40
  go_wp2_with (first
    | (have hgo := Bw0; clear hgo
       go_at_call 47
       refine (rest_any _ y a n0 cap r_y).mono ?_
       rintro e w1 ⟨rfl, rfl⟩
       have Bw1 := Bw0
       clear Bw0)
    | (have hgo := Bw1; clear hgo
       go_at_call 54
       refine (rsplit_any _ _ _ b l m (HBS.out Bw1) HM.out.1 HM.out.2).mono ?_
       rintro e w2 ⟨v1, v2, rfl, o2, g2, kk⟩
       have Bw2 := Bw1.trans (kk.mono Bw1.size)
       replace o2 := Owns.lower o2 Bw1.size
       replace r_y := zrb r_y kk
       clear Bw1 kk)
    | (have hgo := Bw2; clear hgo
       go_at_call 48
       refine (pass_any _ y _ v2 g2.cell r_y).mono ?_
       rintro e w6 ⟨rfl, q6, s6⟩
       have HW := Lib.hid (rd_new HY.out HLT.out Bw2 g2 q6 s6)
       have HO := Lib.hid (o2.sam s6 (fun b hb e => by have h7 := Owns.block o2 b hb; have h8 := HLT.out y HY.out; omega))
       clear Bw2 q6 s6 r_y g2 o2))
  go_ret
  exact ⟨_, rfl, HO.out, HW.out⟩
set_option maxHeartbeats 4000000 in
set_option maxRecDepth 20000 in
theorem rdBytes_big (O : Nat → Prop) (w : World) (y : Nat) (n m : Nat) (l : List UInt8) (hR : rdAt O w y (numL7 n ++ l)) (hn : n < 18446744073709551616 ∧ m ≤ 1000000 ∧ m < n) : Calls Try.prog 24 #[.pointer (some ⟨y, 0, none⟩), .int .i64 (m : Int)] w fun e w' => e = .panicked [{ v := .iface 37 (.int .i64 11), recovered := false }] ∧ Below w.heap.size w w' := by
  have HN := Lib.hid hn
  obtain ⟨s, hy, hlt, r_y, f_s⟩ := hR
  obtain ⟨a, n0, cap, rfl, hn0, q2, q3, q4⟩ := f_s.bs.shape
  have HY := Lib.hid hy
  have HLT := Lib.hid hlt
  have HB := Lib.hid f_s
  have Bw0 := Below.refl w.heap.size w
  have HBS : Hid (∀ {w1 : World}, Below w.heap.size w w1 → BsK (fun x => ¬ O x ∨ x = y) w1 (.slice a n0 cap) (numL7 n ++ l)) := Lib.hid fun k => HB.out.step (Sam.of_below k)
  clear hy hlt f_s hn0 q2 q3 q4
  clear hn
  go_enter Try.func24, Try.ntmps24
  go_wp2_with (first
    | (have hgo := Bw0; clear hgo
       go_at_call 47
       refine (rest_any _ y a n0 cap r_y).mono ?_
       rintro e w1 ⟨rfl, rfl⟩
       have Bw1 := Bw0
       clear Bw0)
    | (have hgo := Bw1; clear hgo
       go_at_call 46
       refine (limited_big _ _ _ n m l (HBS.out Bw1) HN.out.1 HN.out.2.1 HN.out.2.2).mono ?_
       rintro e w2 ⟨rfl, kk⟩
       have Bw2 := Bw1.trans (kk.mono Bw1.size)
       clear Bw1 kk r_y))
  simp [bodyPost, Try.func24, Bw2]
set_option maxHeartbeats 4000000 in
set_option maxRecDepth 20000 in
theorem rdBytes_short (O : Nat → Prop) (w : World) (y : Nat) (n m : Nat) (l : List UInt8) (hR : rdAt O w y (numL7 n ++ l)) (hn : n < 18446744073709551616 ∧ m ≤ 1000000 ∧ n ≤ m ∧ l.length < n) : Calls Try.prog 24 #[.pointer (some ⟨y, 0, none⟩), .int .i64 (m : Int)] w fun e w' => e = .panicked [{ v := .iface 37 (.int .i64 2), recovered := false }] ∧ Below w.heap.size w w' := by
  have HN := Lib.hid hn
  obtain ⟨s, hy, hlt, r_y, f_s⟩ := hR
  obtain ⟨a, n0, cap, rfl, hn0, q2, q3, q4⟩ := f_s.bs.shape
  have HY := Lib.hid hy
  have HLT := Lib.hid hlt
  have HB := Lib.hid f_s
  have Bw0 := Below.refl w.heap.size w
  have HBS : Hid (∀ {w1 : World}, Below w.heap.size w w1 → BsK (fun x => ¬ O x ∨ x = y) w1 (.slice a n0 cap) (numL7 n ++ l)) := Lib.hid fun k => HB.out.step (Sam.of_below k)
  clear hy hlt f_s hn0 q2 q3 q4
  clear hn
  go_enter Try.func24, Try.ntmps24
  go_wp2_with (first
    | (have hgo := Bw0; clear hgo
       go_at_call 47
       refine (rest_any _ y a n0 cap r_y).mono ?_
       rintro e w1 ⟨rfl, rfl⟩
       have Bw1 := Bw0
       clear Bw0)
    | (have hgo := Bw1; clear hgo
       go_at_call 46
       refine (limited_short _ _ _ n m l (HBS.out Bw1) HN.out.1 HN.out.2.1 HN.out.2.2.1 HN.out.2.2.2).mono ?_
       rintro e w2 ⟨rfl, kk⟩
       have Bw2 := Bw1.trans (kk.mono Bw1.size)
       clear Bw1 kk r_y))
  simp [bodyPost, Try.func24, Bw2]
end Go.Proofs.Ytllppgfajbbbaaa

/- The program's Reader: List, NewReader, End; it keeps what is promised. -/
namespace Go.Proofs.Ytllppgfajbbbaaa
open Go.RowKit Go.Deep
set_option linter.unusedSimpArgs false
set_option linter.unusedVariables false

/-- Rows of one's own that are laid one by one: the slice and each row read so as long as the slice's own block alone turns. -/
def outAt (w : World) (base : Nat) (v : Value) (L : List (List UInt8)) : Prop := ∃ xs : List Value, OwnV w base 29 v xs ∧ xs.length = L.length ∧ ∀ i (h : i < L.length), BsK (fun b => v.ownBlock = some b ∨ b < base) w (xs.getD i undef) L[i]
theorem outAt.nil (w : World) (base : Nat) : outAt w base (.slice none 0 0) [] := ⟨[], OwnV.nil _ _ _, rfl, fun i h => by cases h⟩
theorem outAt.step {w w' : World} {base : Nat} {v : Value} {L : List (List UInt8)} (h : outAt w base v L) (k : Below w.heap.size w w') : outAt w' base v L := by
  obtain ⟨xs, h1, h2, h3⟩ := h
  exact ⟨xs, h1.bel k, h2, fun i hi => (h3 i hi).step (Sam.of_below k)⟩
theorem outAt.bss {w : World} {base : Nat} {v : Value} {L : List (List UInt8)} (h : outAt w base v L) : Bss w v L := by
  obtain ⟨xs, h1, h2, h3⟩ := h
  have h4 := h1.vs
  rw [h2] at h4
  obtain ⟨a, cap, rfl, g1, g2, g3, g4⟩ := h4
  exact ⟨a, cap, rfl, g1, g2, g3, fun x hx i hi => ⟨(g4 x hx i hi).1, _, (g4 x hx i hi).2, (h3 i hi).bs⟩⟩
theorem outAt.own {w : World} {base : Nat} {v : Value} {L : List (List UInt8)} (h : outAt w base v L) : ∃ xs, OwnV w base 29 v xs := by
  obtain ⟨xs, h1, _⟩ := h
  exact ⟨xs, h1⟩
theorem outAt.shape {w : World} {base : Nat} {v : Value} {L : List (List UInt8)} (h : outAt w base v L) : v.oneCell' = true ∧ v.cells = #[v] := by
  obtain ⟨a, cap, rfl, _⟩ := h.bss
  exact ⟨rfl, rfl⟩
theorem wrowV1 {ops : Array Oper} {rest : List Oper} {o : Oper} {a : Act} {w : World} {Q : Exit → Act → World → Prop} (hgd : o.guard = none) (x : Operand) (ho : o.op = .buildSlice 32 1 #[(0, x)]) {v1 : Value} {l1 : List UInt8} (h1 : Bs w v1 l1) (hx : a.eval x = v1)
    (h : ∀ v w', Vs w' v 1 (fun i => ([v1] : List Value).getD i undef) → Below w.heap.size w w' → wpList Try.prog ops Q rest (a.put o.dst v) w') : wpList Try.prog ops Q (o :: rest) a w := by
  obtain ⟨a1, c1, rfl, _⟩ := id h1
  have hr := exec_rows1 a.eval x o.type w a1 _ c1 hx
  exact wpList_plain hgd fun _ hK => by
    unfold Oper.wp
    rw [exec_mkOp, ho, hr]
    exact hK _ _ (h _ _ (OwnV.laid w 29 #[.slice a1 l1.length c1] 1 rfl (by unfold maxLen; omega)).vs ((Below.refl _ _).alloc (Nat.le_refl _) _))
theorem infoRowW : (Try.prog.info? 29).map (fun i => (i.zero, i.size, i.bytes)) = some (some (.slice none 0 0), 1, 24) := by kernel_rfl
/-- A row more. -/
theorem wappR {ops : Array Oper} {rest : List Oper} {o : Oper} {a : Act} {w : World} {Q : Exit → Act → World → Prop} (s x : Operand) (hop : o.op = .call { callee := .builtin .append, args := #[s, x], argTypes := #[32, 32] }) (hgd : o.guard = none) {base : Nat} {v vb u : Value} {L : List (List UInt8)} {l : List UInt8}
    (hv : outAt w base v L) (hu : BsK (fun b => v.ownBlock = some b ∨ b < base) w u l) (hb : Vs w vb 1 (fun i => ([u] : List Value).getD i undef)) (hs : a.eval s = v) (hx : a.eval x = vb) (hlen : L.length + 1 ≤ 2147483647) (hbase : base ≤ w.heap.size)
    (h : ∀ v' w', outAt w' base v' (L ++ [l]) → w.grownBy w' v.ownBlock → wpList Try.prog ops Q rest (a.put o.dst v') w') : wpList Try.prog ops Q (o :: rest) a w := by
  obtain ⟨xs, h1, h2, h3⟩ := hv
  obtain ⟨v', w', hr, k1, k2, k3⟩ := exec_appV a.eval s x 32 o.type 29 base v vb (.slice none 0 0) 24 1 xs _ h1 hb Try.underlying32 infoRowW rfl (by decide) (fun i hi => by obtain rfl : i = 0 := (by omega); exact hu.cell.1) hs hx (by omega) hbase
  have kS : Sam (fun b => v.ownBlock = some b ∨ b < base) w w' := Sam.of_grown k2 fun b hb => .inl hb
  have kN : ∀ b, (v'.ownBlock = some b ∨ b < base) → (v.ownBlock = some b ∨ b < base) ∨ w.heap.size ≤ b := fun b hb => hb.elim (fun hb => k3.elim (fun e => .inl (.inl (e ▸ hb))) fun e => .inr (e b hb)) fun hb => .inl (.inr hb)
  exact wpList_plain hgd fun _ hK => by
    unfold Oper.wp
    rw [exec_mkOp, hop, hr]
    refine hK _ _ (h v' w' ⟨_, k1, by simp [h2], fun i hi => ?_⟩ k2)
    rw [List.length_append] at hi
    have hi' : i < L.length + 1 := hi
    rw [List.getD_eq_getElem?_getD]
    by_cases hl : i < L.length
    · rw [List.getElem_append_left hl, List.getElem?_append_left (by omega)]
      have := (h3 i hl).wide kS kN
      rwa [List.getD_eq_getElem?_getD] at this
    · obtain rfl : i = L.length := by omega
      rw [List.getElem_append_right (Nat.le_refl _), List.getElem?_append_right (by omega)]
      simpa [h2] using hu.wide kS kN
theorem outAt.fresh {w w' : World} {base : Nat} {v u : Value} {L : List (List UInt8)} {l : List UInt8} (h : outAt w base v L) (o : Owns w' w.heap.size u l) (hb : base ≤ w.heap.size) : BsK (fun b => v.ownBlock = some b ∨ b < base) w' u l := by
  obtain ⟨xs, h1⟩ := h.own
  exact BsK.own o fun b h => h.elim (fun h => (h1.block b h).2) fun h => Nat.lt_of_lt_of_le h hb
/-- What is laid behind w is not turned by a store into what was there ahead of it. -/
theorem outAt.kept {w w' : World} {base y : Nat} {v : Value} {L : List (List UInt8)} (h : outAt w base v L) (s : Sam (· = y) w w') (hy : y < base) : Bss w' v L := by
  obtain ⟨xs, h1, h2, h3⟩ := h
  have k : outAt w' base v L := ⟨xs, h1.sam s fun b hb e => by have := (h1.block b hb).1; omega, h2, fun i hi => (h3 i hi).step (s.mono fun b _ hb => .inr (by rw [hb]; exact hy))⟩
  exact k.bss
theorem rowsFrom_succ {L : List (List UInt8)} {i : Nat} (hi : i < L.length) : ((L.drop i).map bytL).flatten = bytL L[i] ++ ((L.drop (i + 1)).map bytL).flatten := by
  rw [List.drop_eq_getElem_cons hi, List.map_cons, List.flatten_cons]
set_option maxHeartbeats 4000000 in
set_option maxRecDepth 20000 in
theorem rdList_any (O : Nat → Prop) (w : World) (y c m : Nat) (L : List (List UInt8)) (l : List UInt8) (hR : rdAt O w y (numL7 L.length ++ ((L.map bytL).flatten ++ l))) (hc : L.length ≤ c) (hc2 : c ≤ 1000000) (hm : ∀ b ∈ L, b.length ≤ m) (hm2 : m ≤ 1000000) : Calls Try.prog 26 #[.pointer (some ⟨y, 0, none⟩), .int .i64 (c : Int), .int .i64 (m : Int)] w fun e w' => ∃ v, e = .returned v ∧ Bss w' v L ∧ WrNew rdAt O w y l w' := by
  have HM := Lib.hid (And.intro hm hm2)
  obtain ⟨N, hN⟩ : ∃ N, N = L.length := ⟨_, rfl⟩
  rw [← hN] at hR hc
  have HN := Lib.hid hN
  have HC : Hid (N < 18446744073709551616 ∧ c ≤ 1000000 ∧ N ≤ c ∧ N ≤ 1000000) := Lib.hid (by omega)
  obtain ⟨s, hy, hlt, r_y, f_s⟩ := hR
  obtain ⟨a, n0, cap, rfl, hn0, q2, q3, q4⟩ := f_s.bs.shape
  have HY := Lib.hid hy
  have HLT := Lib.hid hlt
  have HB := Lib.hid f_s
  have Bw0 := Below.refl w.heap.size w
  have HBS : Hid (∀ {w1 : World}, Below w.heap.size w w1 → BsK (fun x => ¬ O x ∨ x = y) w1 (.slice a n0 cap) (numL7 N ++ ((L.map bytL).flatten ++ l))) := Lib.hid fun k => HB.out.step (Sam.of_below k)
  clear hy hlt f_s hn0 q2 q3 q4
  clear hc hc2 hm hm2 hN
  go_enter Try.func26, Try.ntmps26
  go_wp2_with (first
    | (have hgo := Bw0; clear hgo
       go_at_call 49
       refine (natural_any _ m).mono ?_
       rintro e w0 ⟨rfl, h0⟩
       obtain rfl := h0.symm
       have BwA := Bw0
       clear Bw0)
    | (have hgo := BwA; clear hgo
       go_at_call 47
       refine (rest_any _ y a n0 cap r_y).mono ?_
       rintro e w1 ⟨rfl, h0⟩
       obtain rfl := h0.symm
       have Bw1 := BwA
       clear BwA)
    | (have hgo := Bw1; clear hgo
       go_at_call 50
       refine (howMany_ok _ _ _ N c _ (HBS.out Bw1) HC.out.1 HC.out.2.1 HC.out.2.2.1).mono ?_
       rintro e w2 ⟨v2, rfl, g2, kk⟩
       have Bw2 := Bw1.trans (kk.mono Bw1.size)
       have G2 := Lib.hid g2
       replace r_y := zrb r_y kk
       clear Bw1 kk g2))
  go_loopw [8, 9, 21] (fun lv ov iv wr => ∃ (i : Nat), i ≤ N ∧ iv = .int .i64 (i : Int) ∧ BsK (fun x => ¬ O x ∨ x = y) wr lv (((L.drop i).map bytL).flatten ++ l) ∧ outAt wr w.heap.size ov (L.take i) ∧ Below w.heap.size w wr) (fun _ _ iv _ => N - (intOf iv).toNat)
  case atStart => exact ⟨0, Nat.zero_le _, rfl, G2.out, by simpa using outAt.nil _ _, Bw2⟩
  case round =>
    have RY0 := Lib.hid r_y
    have BW2 := Lib.hid Bw2
    clear r_y Bw2 G2
    obtain ⟨i, hi, rfl, g_l, o_v, Bw2⟩ := hrel
    by_cases hlt : i < N
    · have hiI : (i : Int) < (N : Int) := by omega
      have hil : i < L.length := by rw [← HN.out]; exact hlt
      rw [rowsFrom_succ hil, List.append_assoc] at g_l
      have HT := Lib.hid (List.take_succ_eq_append_getElem hil)
      have HRL := Lib.hid (HM.out.1 L[i] (List.getElem_mem _))
      generalize L[i] = row at *
      have HGL := Lib.hid g_l
      have HOV := Lib.hid o_v
      have HJ := Lib.hid (And.intro hlt hil)
      obtain ⟨i1, hi1⟩ := nat_var (i + 1)
      have hwj : IntKind.i64.wrap ((i : Int) + 1) = (i1 : Int) := by rw [IntWalk.i64_in _ (by have := HC.out.2.2.2; omega)]; omega
      have HJ1 := Lib.hid hi1
      clear hi hlt hi1 hil g_l o_v
      go_wp2_with (first
        | (have hgo := Bw2; clear hgo
           go_at_call 46
           refine (limited_ok _ _ _ row _ m HGL.out HRL.out HM.out.2).mono ?_
           rintro e w3 ⟨u, v3, rfl, o3, g3, kk⟩
           have Bw3 := Bw2.trans (kk.mono Bw2.size)
           have o_v := HOV.out.step kk
           have g_u := HOV.out.fresh o3 Bw2.size
           have G3 := Lib.hid g3
           clear Bw2 kk o3 g3 HGL HOV)
        | (have hgo := Bw3; clear hgo
           refine wrowV1 rfl (.tmp 30) rfl g_u.bs rfl ?_
           intro v_b w4 f_b kk
           replace o_v := o_v.step kk
           replace g_u := g_u.step (Sam.of_below kk)
           have G4 := Lib.hid (G3.out.step (Sam.of_below kk))
           have Bw4 := Bw3.trans (kk.mono Bw3.size)
           clear Bw3 kk G3)
        | (have hgo := Bw4; clear hgo
           refine wappR (.tmp 29) (.tmp 31) rfl rfl o_v g_u f_b rfl rfl (by have := HJ.out; have := HC.out; have := HN.out; rw [List.length_take]; omega) Bw4.size ?_
           intro v5 w5 o5 gk
           obtain ⟨xs, hxs⟩ := o_v.own
           have Bw5 := Bw4.grown gk Bw4.size (fun k hk => (hxs.block k hk).1)
           have G5 := Lib.hid (G4.out.step (Sam.of_grown gk fun k hk => .inl fun hO => by have := (hxs.block k hk).1; have := HLT.out k hO; omega))
           rw [← HT.out] at o5
           have O5 := Lib.hid o5
           clear gk hxs o_v g_u f_b Bw4 G4 o5))
      go_roundw
      case rel => exact ⟨i + 1, HJ.out.1, by rw [HJ1.out], G5.out, O5.out, Bw5⟩
      case measure => (have := HJ1.out; have := HJ.out; simp [intOf]; try omega)
    · obtain rfl : i = N := by omega
      have hiI : ¬ (i : Int) < (i : Int) := by omega
      have HL0 : Hid (L.take i = L ∧ L.drop i = []) := Lib.hid ⟨List.take_of_length_le (by rw [← HN.out]; exact Nat.le_refl _), List.drop_eq_nil_of_le (by rw [← HN.out]; exact Nat.le_refl _)⟩
      rw [HL0.out.1] at o_v
      rw [HL0.out.2] at g_l
      have g2 : BsK (fun x => ¬ O x ∨ x = y) _ _ l := g_l
      have r_y := World.rowIs.of_block RY0.out (Bw2.block y (HLT.out y HY.out) |>.trans (BW2.out.block y (HLT.out y HY.out)).symm)
      clear hlt hi g_l
      go_wp2_with (first
        | (have hgo := Bw2; clear hgo
           go_at_call 48
           refine (pass_any _ y _ _ g2.cell r_y).mono ?_
           rintro e w6 ⟨rfl, q6, s6⟩
           have HW := Lib.hid (rd_new HY.out HLT.out Bw2 g2 q6 s6)
           have HO := Lib.hid o_v
           have S6 := Lib.hid s6
           clear Bw2 q6 s6 r_y g2 o_v))
      go_ret
      exact ⟨_, rfl, outAt.kept HO.out S6.out (HLT.out y HY.out), HW.out⟩
set_option maxHeartbeats 4000000 in
set_option maxRecDepth 20000 in
theorem rdList_big (O : Nat → Prop) (w : World) (y c m n : Nat) (l : List UInt8) (hR : rdAt O w y (numL7 n ++ l)) (hn : n < 18446744073709551616 ∧ c ≤ 1000000 ∧ c < n) : Calls Try.prog 26 #[.pointer (some ⟨y, 0, none⟩), .int .i64 (c : Int), .int .i64 (m : Int)] w fun e w' => e = .panicked [{ v := .iface 37 (.int .i64 11), recovered := false }] ∧ Below w.heap.size w w' := by
  have HN := Lib.hid hn
  obtain ⟨s, hy, hlt, r_y, f_s⟩ := hR
  obtain ⟨a, n0, cap, rfl, hn0, q2, q3, q4⟩ := f_s.bs.shape
  have HY := Lib.hid hy
  have HLT := Lib.hid hlt
  have HB := Lib.hid f_s
  have Bw0 := Below.refl w.heap.size w
  have HBS : Hid (∀ {w1 : World}, Below w.heap.size w w1 → BsK (fun x => ¬ O x ∨ x = y) w1 (.slice a n0 cap) (numL7 n ++ l)) := Lib.hid fun k => HB.out.step (Sam.of_below k)
  clear hy hlt f_s hn0 q2 q3 q4
  clear hn
  go_enter Try.func26, Try.ntmps26
  go_wp2_with (first
    | (have hgo := Bw0; clear hgo
       go_at_call 49
       refine (natural_any _ m).mono ?_
       rintro e w0 ⟨rfl, h0⟩
       obtain rfl := h0.symm
       have BwA := Bw0
       clear Bw0)
    | (have hgo := BwA; clear hgo
       go_at_call 47
       refine (rest_any _ y a n0 cap r_y).mono ?_
       rintro e w1 ⟨rfl, h0⟩
       obtain rfl := h0.symm
       have Bw1 := BwA
       clear BwA)
    | (have hgo := Bw1; clear hgo
       go_at_call 50
       refine (howMany_big _ _ _ n c l (HBS.out Bw1) HN.out.1 HN.out.2.1 HN.out.2.2).mono ?_
       rintro e w2 ⟨rfl, kk⟩
       have Bw2 := Bw1.trans (kk.mono Bw1.size)
       clear Bw1 kk r_y))
  simp [bodyPost, Try.func26, Bw2]
set_option maxHeartbeats 4000000 in
set_option maxRecDepth 20000 in
theorem rdList_short (O : Nat → Prop) (w : World) (y c m : Nat) (L : List (List UInt8)) (hR : rdAt O w y (numL7 (L.length + 1) ++ ((L.map bytL).flatten ++ []))) (hc : L.length + 1 ≤ c) (hc2 : c ≤ 1000000) (hm : ∀ b ∈ L, b.length ≤ m) (hm2 : m ≤ 1000000) : Calls Try.prog 26 #[.pointer (some ⟨y, 0, none⟩), .int .i64 (c : Int), .int .i64 (m : Int)] w fun e w' => e = .panicked [{ v := .iface 37 (.int .i64 2), recovered := false }] ∧ Below w.heap.size w w' := by
  have HM := Lib.hid (And.intro hm hm2)
  obtain ⟨N, hN⟩ : ∃ N, N = L.length + 1 := ⟨_, rfl⟩
  rw [← hN] at hR hc
  have HN := Lib.hid hN
  have HC : Hid (N < 18446744073709551616 ∧ c ≤ 1000000 ∧ N ≤ c ∧ N ≤ 1000000) := Lib.hid (by omega)
  obtain ⟨s, hy, hlt, r_y, f_s⟩ := hR
  obtain ⟨a, n0, cap, rfl, hn0, q2, q3, q4⟩ := f_s.bs.shape
  have HY := Lib.hid hy
  have HLT := Lib.hid hlt
  have HB := Lib.hid f_s
  have Bw0 := Below.refl w.heap.size w
  have HBS : Hid (∀ {w1 : World}, Below w.heap.size w w1 → BsK (fun x => ¬ O x ∨ x = y) w1 (.slice a n0 cap) (numL7 N ++ ((L.map bytL).flatten ++ []))) := Lib.hid fun k => HB.out.step (Sam.of_below k)
  clear hy hlt f_s hn0 q2 q3 q4
  clear hc hc2 hm hm2 hN
  go_enter Try.func26, Try.ntmps26
  go_wp2_with (first
    | (have hgo := Bw0; clear hgo
       go_at_call 49
       refine (natural_any _ m).mono ?_
       rintro e w0 ⟨rfl, h0⟩
       obtain rfl := h0.symm
       have BwA := Bw0
       clear Bw0)
    | (have hgo := BwA; clear hgo
       go_at_call 47
       refine (rest_any _ y a n0 cap r_y).mono ?_
       rintro e w1 ⟨rfl, h0⟩
       obtain rfl := h0.symm
       have Bw1 := BwA
       clear BwA)
    | (have hgo := Bw1; clear hgo
       go_at_call 50
       refine (howMany_ok _ _ _ N c _ (HBS.out Bw1) HC.out.1 HC.out.2.1 HC.out.2.2.1).mono ?_
       rintro e w2 ⟨v2, rfl, g2, kk⟩
       have Bw2 := Bw1.trans (kk.mono Bw1.size)
       have G2 := Lib.hid g2
       replace r_y := zrb r_y kk
       clear Bw1 kk g2))
  go_loopw [8, 9, 21] (fun lv ov iv wr => ∃ (i : Nat), i ≤ L.length ∧ iv = .int .i64 (i : Int) ∧ BsK (fun x => ¬ O x ∨ x = y) wr lv (((L.drop i).map bytL).flatten ++ []) ∧ outAt wr w.heap.size ov (L.take i) ∧ Below w.heap.size w wr) (fun _ _ iv _ => N - (intOf iv).toNat)
  case atStart => exact ⟨0, Nat.zero_le _, rfl, G2.out, by simpa using outAt.nil _ _, Bw2⟩
  case round =>
    have RY0 := Lib.hid r_y
    have BW2 := Lib.hid Bw2
    clear r_y Bw2 G2
    obtain ⟨i, hi, rfl, g_l, o_v, Bw2⟩ := hrel
    by_cases hlt : i < L.length
    · have hiI : (i : Int) < (N : Int) := by have := HN.out; omega
      have hil : i < L.length := by have := HN.out; omega
      rw [rowsFrom_succ hil, List.append_assoc] at g_l
      have HT := Lib.hid (List.take_succ_eq_append_getElem hil)
      have HRL := Lib.hid (HM.out.1 L[i] (List.getElem_mem _))
      generalize L[i] = row at *
      have HGL := Lib.hid g_l
      have HOV := Lib.hid o_v
      have HJ := Lib.hid (And.intro (And.intro hlt hil) True.intro)
      obtain ⟨i1, hi1⟩ := nat_var (i + 1)
      have hwj : IntKind.i64.wrap ((i : Int) + 1) = (i1 : Int) := by rw [IntWalk.i64_in _ (by have := HC.out.2.2.2; omega)]; omega
      have HJ1 := Lib.hid hi1
      clear hi hlt hi1 hil g_l o_v
      go_wp2_with (first
        | (have hgo := Bw2; clear hgo
           go_at_call 46
           refine (limited_ok _ _ _ row _ m HGL.out HRL.out HM.out.2).mono ?_
           rintro e w3 ⟨u, v3, rfl, o3, g3, kk⟩
           have Bw3 := Bw2.trans (kk.mono Bw2.size)
           have o_v := HOV.out.step kk
           have g_u := HOV.out.fresh o3 Bw2.size
           have G3 := Lib.hid g3
           clear Bw2 kk o3 g3 HGL HOV)
        | (have hgo := Bw3; clear hgo
           refine wrowV1 rfl (.tmp 30) rfl g_u.bs rfl ?_
           intro v_b w4 f_b kk
           replace o_v := o_v.step kk
           replace g_u := g_u.step (Sam.of_below kk)
           have G4 := Lib.hid (G3.out.step (Sam.of_below kk))
           have Bw4 := Bw3.trans (kk.mono Bw3.size)
           clear Bw3 kk G3)
        | (have hgo := Bw4; clear hgo
           refine wappR (.tmp 29) (.tmp 31) rfl rfl o_v g_u f_b rfl rfl (by have := HJ.out; have := HC.out; have := HN.out; rw [List.length_take]; omega) Bw4.size ?_
           intro v5 w5 o5 gk
           obtain ⟨xs, hxs⟩ := o_v.own
           have Bw5 := Bw4.grown gk Bw4.size (fun k hk => (hxs.block k hk).1)
           have G5 := Lib.hid (G4.out.step (Sam.of_grown gk fun k hk => .inl fun hO => by have := (hxs.block k hk).1; have := HLT.out k hO; omega))
           rw [← HT.out] at o5
           have O5 := Lib.hid o5
           clear gk hxs o_v g_u f_b Bw4 G4 o5))
      go_roundw
      case rel => exact ⟨i + 1, (by have := HJ.out.1; have := HN.out; omega), by rw [HJ1.out], G5.out, O5.out, Bw5⟩
      case measure => (have := HJ1.out; have := HJ.out; have := HN.out; simp [intOf]; try omega)
    · obtain rfl : i = L.length := by omega
      have hiI : ((L.length : Nat) : Int) < (N : Int) := by have := HN.out; omega
      have HL0 : Hid (L.drop L.length = []) := Lib.hid (List.drop_length)
      rw [HL0.out] at g_l
      obtain ⟨a2, n2, c2, rfl, q1, q2, q3, q4⟩ := g_l.bs.shape
      obtain rfl : n2 = 0 := by simp at q1; omega
      have HGL := Lib.hid q4
      clear hlt hi g_l o_v q1 q2 q3 q4
      go_wp2_with (first
        | (have hgo := Bw2; clear hgo
           go_at_call 46
           refine (limited_bad _ a2 c2 m (by simpa using HGL.out)).mono ?_
           rintro e w3 ⟨rfl, kk⟩
           have Bw3 := Bw2.trans (kk.mono Bw2.size)
           clear Bw2 kk))
      simp [bodyPost, Try.func26, Bw3]
theorem builtRd (a : Option Addr) (n c : Nat) : Try.prog.built 73 [(0, .slice a n c)] = some (arrOf 1 fun _ => .slice a n c) := by kernel_rfl
set_option maxHeartbeats 4000000 in
set_option maxRecDepth 20000 in
theorem newReader_any (w : World) (vb : Value) (b : List UInt8) (hb : Bs w vb b) (hbl : b.length ≤ 200000000) : Calls Try.prog 31 #[vb] w fun e w' => ∃ r, e = .returned (.pointer (some ⟨r, 0, none⟩)) ∧ rdAt (fun x => w.heap.size ≤ x ∧ x < w'.heap.size) w' r b ∧ Below w.heap.size w w' := by
  have Bw0 := Below.refl w.heap.size w
  have f_s := hb
  have HL : Hid ([b].flatten.length ≤ 2147483647) := Lib.hid (by simp; omega)
  clear hb hbl
  go_enter Try.func31, Try.ntmps31
  go_wp2_with (first
    | (have hgo := Bw0; clear hgo
       refine wlist_rows1 rfl (.tmp 3) rfl f_s rfl ?_
       intro v_r w4 F_r kk
       have Bw4 := kk
       clear Bw0 kk)
    | (have hgo := Bw4; clear hgo
       go_at_call 51
       refine (cat_any v_r [b] _ F_r HL.out).mono ?_
       rintro e w5 ⟨v5, rfl, o5, kk⟩
       have Bw5 := Bw4.trans (kk.mono Bw4.size)
       replace o5 := Owns.lower o5 Bw4.size
       rw [show [b].flatten = b by simp] at o5
       have B5 := Lib.hid Bw5
       obtain ⟨ad, cp, rfl, hrest⟩ := id o5.bs
       clear Bw4 kk F_r hrest)
    | (refine wpList_build_arr rfl 73 #[(0, .tmp 5)] rfl (arrOf 1 fun _ => .slice ad b.length cp) ?_ ?_
       · simp only [List.map_toArray, List.map_cons, List.map_nil]; exact builtRd _ _ _)
    | (have hgo := Bw5; clear hgo
       refine wpList_box_row rfl 73 (.tmp 6) rfl 1 (fun _ => .slice ad b.length cp) rfl ?_
       intro r w6 lr r_r kk
       have LR := Lib.hid lr
       have RR := Lib.hid r_r
       have KK := Lib.hid kk
       have Bw6 := Lib.hid (Bw5.trans (kk.mono Bw5.size))
       clear Bw5 kk lr r_r))
  go_ret
  have h1 := KK.out.size
  have h2 := LR.out
  have h3 := RR.out.lt
  have h4 := B5.out.size
  exact ⟨r, rfl, ⟨_, ⟨by omega, h3⟩, fun x h => h.2, RR.out, fun w' s => ((Owns.belowJ o5 KK.out).sam s (fun k hk hM => by
    have h5 := Owns.block o5 k hk
    have h6 := (World.ownsRow.lt o5 k hk).2
    rcases hM with hM | hM
    · exact hM ⟨h5, by omega⟩
    · omega)).bs⟩, Bw6.out⟩
set_option maxHeartbeats 4000000 in
set_option maxRecDepth 20000 in
theorem rdEnd_ok (O : Nat → Prop) (w : World) (y : Nat) (l : List UInt8) (hR : rdAt O w y l) (hl : l = []) : Calls Try.prog 38 #[.pointer (some ⟨y, 0, none⟩)] w fun e w' => e = .returned (.tuple #[]) ∧ w' = w := by
  obtain ⟨s, hy, hlt, r_y, f_s⟩ := hR
  obtain ⟨a, n, cap, rfl, hn, h2, h3, h4⟩ := f_s.bs.shape
  have hnI : ¬ (0 : Int) < (n : Int) := by subst hl; simp only [List.length_nil] at hn; omega
  clear hy hlt f_s hn h2 h3 h4 hl
  go_enter Try.func38, Try.ntmps38
  go_wp2_with (first
    | (have hgo := r_y; clear hgo
       go_at_call 47
       refine (rest_any _ y a n cap r_y).mono ?_
       rintro e w1 ⟨rfl, rfl⟩
       clear r_y))
  simp [bodyPost, results]
set_option maxHeartbeats 4000000 in
set_option maxRecDepth 20000 in
theorem rdEnd_bad (O : Nat → Prop) (w : World) (y : Nat) (l : List UInt8) (hR : rdAt O w y l) (hl : l ≠ []) : Calls Try.prog 38 #[.pointer (some ⟨y, 0, none⟩)] w fun e w' => e = .panicked [{ v := .iface 37 (.int .i64 2), recovered := false }] ∧ w' = w := by
  obtain ⟨s, hy, hlt, r_y, f_s⟩ := hR
  obtain ⟨a, n, cap, rfl, hn, h2, h3, h4⟩ := f_s.bs.shape
  have hnI : (0 : Int) < (n : Int) := by have := List.length_pos_iff.2 hl; omega
  clear hy hlt f_s hn h2 h3 h4 hl
  go_enter Try.func38, Try.ntmps38
  go_wp2_with (first
    | (have hgo := r_y; clear hgo
       go_at_call 47
       refine (rest_any _ y a n cap r_y).mono ?_
       rintro e w1 ⟨rfl, rfl⟩
       clear r_y))
  simp [bodyPost, Try.func38]
theorem rdApi : RdApi rdAt where
  stay := fun O F w w' y l h k hF => rdAt.stay O F w w' y l h k hF
  lt := fun O w y l h b hb => rdAt.lt O w y l h b hb
  num := fun O w y n l h hn => rdNum_any O w y n l h hn
  bytes := fun O w y m b l h hm hm2 => rdBytes_any O w y m b l h hm hm2
  list := fun O w y c m L l h hc hc2 hm hm2 => rdList_any O w y c m L l h hc hc2 hm hm2
  fixed := fun O w y m b l h hm hm2 => rdFixed_any O w y m b l h hm hm2
end Go.Proofs.Ytllppgfajbbbaaa

/- Chapter 14's statements: 'panics'. -/
namespace Go.Proofs.Ytllppgfajbbbaaa
open Go.RowKit Go.Deep
set_option linter.unusedSimpArgs false
set_option linter.unusedVariables false

theorem zero_of {P : Program} {t : TypeId} {z : Value} (h : (P.info? t).map (fun i => i.zero) = some (some z)) (w : World) : (zeroValue t).run P w = .ok z w := by
  cases hq : P.info? t with
  | none => simp [hq] at h
  | some i =>
    have hz : i.zero = some z := by simpa [hq] using h
    simp [zeroValue, typeInfo, hq, hz, Sem.run_bind, Result.andThen]
theorem as_yes (v : Value) (w : World) : (Instr.typeAssert (.iface 37 v) 20 37 true).run Try.prog w = .ok (.tuple #[v, .bool true]) w := by
  unfold Instr.typeAssert
  rw [Sem.run_bind, run_underlying Try.underlying37 w]
  simp [Result.andThen]
theorem as_no (v : Value) (w : World) : (Instr.typeAssert (.iface 9 v) 20 37 true).run Try.prog w = .ok (.tuple #[.int .i64 0, .bool false]) w := by
  have hz : (zeroValue 37).run Try.prog w = .ok (.int .i64 0) w := zero_of (by kernel_rfl) w
  unfold Instr.typeAssert
  rw [Sem.run_bind, run_underlying Try.underlying37 w]
  simp [Result.andThen, hz]
set_option maxHeartbeats 4000000 in
theorem pan_err (p : Addr) (x : Int) (n : Int) (older : List PanicEntry) (w : World) (hc : w.cell? p = some (.int .i64 x)) (hz : w.frozen? p = false) :
    CallsD Try.prog 41 #[.pointer (some p)] (.panicking ({ v := .iface 37 (.int .i64 n), recovered := false } :: older)) w fun e u' w' => e = .returned (.tuple #[]) ∧ u' = (.panicking ({ v := .iface 37 (.int .i64 n), recovered := true } :: older)) ∧ w' = ((w.setCell p (.int .i64 (-1))).setCell p (.int .i64 (-2))).setCell p (.int .i64 n) := by
  have ha := as_yes (.int .i64 n)
  refine callsD_of_wpS Try.func41 rfl fun c₀ cs hu => ?_
  apply wpS_seq
  apply wpS_region
  simp [wpOpsS, go_sem, recoverD, hu, Try.ntmps41, Exit.thenS]
  refine wpS_of_wp ?_
  change Code.wp _ _ _ { tmps := #[.pointer (some p), .iface 37 (.int .i64 n), undef, undef, .iface 37 (.int .i64 n), undef, undef, undef, undef, undef, undef, undef, undef, undef], defers := [] } w
  go_wp2
  simp [bodyPostS, results, Try.results41]
set_option maxHeartbeats 4000000 in
theorem pan_str (p : Addr) (x : Int) (u : Value) (older : List PanicEntry) (w : World) (hc : w.cell? p = some (.int .i64 x)) (hz : w.frozen? p = false) :
    CallsD Try.prog 41 #[.pointer (some p)] (.panicking ({ v := .iface 9 u, recovered := false } :: older)) w fun e u' w' => e = .returned (.tuple #[]) ∧ u' = (.panicking ({ v := .iface 9 u, recovered := true } :: older)) ∧ w' = ((w.setCell p (.int .i64 (-1))).setCell p (.int .i64 (-2))) := by
  have ha := as_no u
  refine callsD_of_wpS Try.func41 rfl fun c₀ cs hu => ?_
  apply wpS_seq
  apply wpS_region
  simp [wpOpsS, go_sem, recoverD, hu, Try.ntmps41, Exit.thenS]
  refine wpS_of_wp ?_
  change Code.wp _ _ _ { tmps := #[.pointer (some p), .iface 9 u, undef, undef, .iface 9 u, undef, undef, undef, undef, undef, undef, undef, undef, undef], defers := [] } w
  go_wp2
  simp [bodyPostS, results, Try.results41]
set_option maxHeartbeats 4000000 in
theorem pan_none (p : Addr) (x : Int) (w : World) (hc : w.cell? p = some (.int .i64 x)) (hz : w.frozen? p = false) :
    CallsD Try.prog 41 #[.pointer (some p)] .returning w fun e u' w' => e = .returned (.tuple #[]) ∧ u' = .returning ∧ w' = (w.setCell p (.int .i64 (-1))) := by
  refine callsD_of_wpS Try.func41 rfl fun c₀ cs hu => ?_
  apply wpS_seq
  apply wpS_region
  simp [wpOpsS, go_sem, recoverD, hu, Try.ntmps41, Exit.thenS]
  refine wpS_of_wp ?_
  change Code.wp _ _ _ { tmps := #[.pointer (some p), .nilIface, undef, undef, .nilIface, undef, undef, undef, undef, undef, undef, undef, undef, undef], defers := [] } w
  go_wp2
  cases c₀
  simp_all [bodyPostS, results, Try.results41]
end Go.Proofs.Ytllppgfajbbbaaa

/- Chapter 14's statements: 'panics' of a closure. -/
namespace Go.Proofs.Ytllppgfajbbbaaa
open Go.RowKit Go.Deep
set_option linter.unusedSimpArgs false
set_option linter.unusedVariables false

set_option maxHeartbeats 4000000 in
theorem panics_ok (F : Nat) (fn : Func) (caps : Array Value) (w : World) (hf : Try.prog.funcs[F]? = some fn) (hn : (fn.name == "runtime.NumGoroutine") = false) (hb : fn.body.isNone = false) (R : World → World → Prop)
    (hR : ∀ w1 w2, R w1 w2 → w2.heap[w.heap.size]? = w1.heap[w.heap.size]?)
    (hc : Calls Try.prog F caps (w.alloc (.cells #[.int .i64 0] 3)) fun e w2 => e = .returned (.tuple #[]) ∧ R (w.alloc (.cells #[.int .i64 0] 3)) w2) :
    Calls Try.prog 17 #[.func (.func F) #[] caps] w fun e w' => e = .returned (.int .i64 (-1)) ∧ ∃ w2, R (w.alloc (.cells #[.int .i64 0] 3)) w2 ∧ w2.grownBy w' (some w.heap.size) := by
  have hmf : ∀ (fn : Fn) (first cap : Array Value) (w : World), (Instr.makeFunc fn first cap).run Try.prog w = .ok (.func fn first cap) w := fun _ _ _ _ => rfl
  have hcf : ∀ w, (callFunc F caps).run Try.prog w = .ok (.enter F caps) w := fun w => run_enter hf hn hb caps w
  have r1 : (w.alloc (.cells #[.int .i64 0] 3)).rowIs w.heap.size 3 1 (fun _ => .int .i64 0) := World.rowIs_alloc w #[.int .i64 0] 3 _ (fun i hi => by
    have hi' : i < 1 := hi
    obtain rfl : i = 0 := by omega
    rfl)
  have HC := Lib.hid hc
  have HR := Lib.hid hR
  have R1 := Lib.hid r1
  clear hc hR r1
  go_enter_defers Try.func17, Try.ntmps17
  go_wp2
  refine HC.out.mono ?_
  rintro e w2 ⟨rfl, h2⟩
  have r2 := World.rowIs.of_block R1.out (HR.out _ _ h2)
  have c2 := r2.cell (i := 0) (by decide)
  have z2 := r2.frozen 0
  clear hcf HC HR
  go_wp2
  have q0 := r2.set 0 (.int .i64 0)
  have q1 := q0.set 0 (.int .i64 (-1))
  have cl := q1.cell (i := 0) (by decide)
  simp only [if_true] at cl
  refine leaves_cons (f := 41) (args := #[.pointer (some ⟨w.heap.size, 0, none⟩)]) (by simp) (by simp [go_sem]) ?_
  refine (pan_none ⟨w.heap.size, 0, none⟩ 0 _ (by simpa using q0.cell (i := 0) (by decide)) (q0.frozen 0)).mono ?_
  rintro e u' w3 ⟨rfl, rfl, rfl⟩
  simp [Leaves, settle, results, Try.results17, go_sem, cl]
  exact ⟨w2, h2, grownBy_trans (grownBy_set _ _ _ _) (grownBy_set _ _ _ _)⟩
set_option maxHeartbeats 4000000 in
theorem panics_err (F : Nat) (fn : Func) (caps : Array Value) (n : Int) (older : List PanicEntry) (hol : older.dropWhile (fun e => !e.goexit) = []) (w : World) (hf : Try.prog.funcs[F]? = some fn) (hn : (fn.name == "runtime.NumGoroutine") = false) (hb : fn.body.isNone = false) (R : World → World → Prop)
    (hR : ∀ w1 w2, R w1 w2 → w2.heap[w.heap.size]? = w1.heap[w.heap.size]?)
    (hc : Calls Try.prog F caps (w.alloc (.cells #[.int .i64 0] 3)) fun e w2 => e = .panicked ({ v := .iface 37 (.int .i64 n), recovered := false } :: older) ∧ R (w.alloc (.cells #[.int .i64 0] 3)) w2) :
    Calls Try.prog 17 #[.func (.func F) #[] caps] w fun e w' => e = .returned (.int .i64 n) ∧ ∃ w2, R (w.alloc (.cells #[.int .i64 0] 3)) w2 ∧ w2.grownBy w' (some w.heap.size) := by
  have hmf : ∀ (fn : Fn) (first cap : Array Value) (w : World), (Instr.makeFunc fn first cap).run Try.prog w = .ok (.func fn first cap) w := fun _ _ _ _ => rfl
  have hcf : ∀ w, (callFunc F caps).run Try.prog w = .ok (.enter F caps) w := fun w => run_enter hf hn hb caps w
  have r1 : (w.alloc (.cells #[.int .i64 0] 3)).rowIs w.heap.size 3 1 (fun _ => .int .i64 0) := World.rowIs_alloc w #[.int .i64 0] 3 _ (fun i hi => by
    have hi' : i < 1 := hi
    obtain rfl : i = 0 := by omega
    rfl)
  have HC := Lib.hid hc
  have HR := Lib.hid hR
  have R1 := Lib.hid r1
  clear hc hR r1
  go_enter_defers Try.func17, Try.ntmps17
  go_wp2
  refine HC.out.mono ?_
  rintro e w2 ⟨rfl, h2⟩
  have r2 := World.rowIs.of_block R1.out (HR.out _ _ h2)
  have c2 := r2.cell (i := 0) (by decide)
  have z2 := r2.frozen 0
  clear hcf HC HR
  go_wp2
  have q0 := r2.set 0 (.int .i64 (-1))
  have q1 := q0.set 0 (.int .i64 (-2))
  have q2 := q1.set 0 (.int .i64 n)
  have cl := q2.cell (i := 0) (by decide)
  simp only [if_true] at cl
  refine leaves_cons (f := 41) (args := #[.pointer (some ⟨w.heap.size, 0, none⟩)]) (by simp) (by simp [go_sem]) ?_
  refine (pan_err ⟨w.heap.size, 0, none⟩ 0 n older _ c2 z2).mono ?_
  rintro e u' w3 ⟨rfl, rfl, rfl⟩
  simp [Leaves, settle, results, Try.results17, go_sem, cl, hol]
  exact ⟨w2, h2, grownBy_trans (grownBy_trans (grownBy_set _ _ _ _) (grownBy_set _ _ _ _)) (grownBy_set _ _ _ _)⟩
set_option maxHeartbeats 4000000 in
theorem panics_str (F : Nat) (fn : Func) (caps : Array Value) (u : Value) (older : List PanicEntry) (hol : older.dropWhile (fun e => !e.goexit) = []) (w : World) (hf : Try.prog.funcs[F]? = some fn) (hn : (fn.name == "runtime.NumGoroutine") = false) (hb : fn.body.isNone = false) (R : World → World → Prop)
    (hR : ∀ w1 w2, R w1 w2 → w2.heap[w.heap.size]? = w1.heap[w.heap.size]?)
    (hc : Calls Try.prog F caps (w.alloc (.cells #[.int .i64 0] 3)) fun e w2 => e = .panicked ({ v := .iface 9 u, recovered := false } :: older) ∧ R (w.alloc (.cells #[.int .i64 0] 3)) w2) :
    Calls Try.prog 17 #[.func (.func F) #[] caps] w fun e w' => e = .returned (.int .i64 (-2)) ∧ ∃ w2, R (w.alloc (.cells #[.int .i64 0] 3)) w2 ∧ w2.grownBy w' (some w.heap.size) := by
  have hmf : ∀ (fn : Fn) (first cap : Array Value) (w : World), (Instr.makeFunc fn first cap).run Try.prog w = .ok (.func fn first cap) w := fun _ _ _ _ => rfl
  have hcf : ∀ w, (callFunc F caps).run Try.prog w = .ok (.enter F caps) w := fun w => run_enter hf hn hb caps w
  have r1 : (w.alloc (.cells #[.int .i64 0] 3)).rowIs w.heap.size 3 1 (fun _ => .int .i64 0) := World.rowIs_alloc w #[.int .i64 0] 3 _ (fun i hi => by
    have hi' : i < 1 := hi
    obtain rfl : i = 0 := by omega
    rfl)
  have HC := Lib.hid hc
  have HR := Lib.hid hR
  have R1 := Lib.hid r1
  clear hc hR r1
  go_enter_defers Try.func17, Try.ntmps17
  go_wp2
  refine HC.out.mono ?_
  rintro e w2 ⟨rfl, h2⟩
  have r2 := World.rowIs.of_block R1.out (HR.out _ _ h2)
  have c2 := r2.cell (i := 0) (by decide)
  have z2 := r2.frozen 0
  clear hcf HC HR
  go_wp2
  have q0 := r2.set 0 (.int .i64 (-1))
  have q1 := q0.set 0 (.int .i64 (-2))
  have cl := q1.cell (i := 0) (by decide)
  simp only [if_true] at cl
  refine leaves_cons (f := 41) (args := #[.pointer (some ⟨w.heap.size, 0, none⟩)]) (by simp) (by simp [go_sem]) ?_
  refine (pan_str ⟨w.heap.size, 0, none⟩ 0 u older _ c2 z2).mono ?_
  rintro e u' w3 ⟨rfl, rfl, rfl⟩
  simp [Leaves, settle, results, Try.results17, go_sem, cl, hol]
  exact ⟨w2, h2, grownBy_trans (grownBy_set _ _ _ _) (grownBy_set _ _ _ _)⟩
end Go.Proofs.Ytllppgfajbbbaaa

/- The program's Read. -/
namespace Go.Proofs.Ytllppgfajbbbaaa
open Go.RowKit Go.Deep
set_option linter.unusedSimpArgs false
set_option linter.unusedVariables false

set_option maxHeartbeats 4000000 in
set_option maxRecDepth 20000 in
theorem refusal_err (n : Int) (hn : n ≠ 0) (w : World) : Calls Try.prog 37 #[.iface 37 (.int .i64 n)] w fun e w' => e = .returned (.int .i64 n) ∧ w' = w := by
  have ha := as_yes (.int .i64 n)
  have hn0 : (n == 0) = false := by simpa using hn
  go_enter Try.func37, Try.ntmps37
  go_wp2
  go_ret
  exact ⟨rfl, rfl⟩
set_option maxHeartbeats 4000000 in
set_option maxRecDepth 20000 in
theorem refusal_str (u : Value) (w : World) : Calls Try.prog 37 #[.iface 9 u] w fun e w' => e = .panicked [{ v := .iface 9 u, recovered := false }] ∧ w' = w := by
  have ha := as_no u
  go_enter Try.func37, Try.ntmps37
  go_wp2
  simp [bodyPost, Try.func37]
set_option maxHeartbeats 4000000 in
set_option maxRecDepth 20000 in
theorem rpw_err (p : Addr) (x : Int) (n : Int) (hn : n ≠ 0) (older : List PanicEntry) (w : World) (hc : w.cell? p = some (.int .i64 x)) (hz : w.frozen? p = false) :
    CallsD Try.prog 36 #[.pointer (some p)] (.panicking ({ v := .iface 37 (.int .i64 n), recovered := false } :: older)) w fun e u' w' => e = .returned (.tuple #[]) ∧ u' = (.panicking ({ v := .iface 37 (.int .i64 n), recovered := true } :: older)) ∧ w' = w.setCell p (.int .i64 n) := by
  refine callsD_of_wpS Try.func36 rfl fun c₀ cs hu => ?_
  apply wpS_seq
  apply wpS_region
  generalize hN : Exit.thenS _ _ = NX
  simp [wpOpsS, go_sem, recoverD, hu, Try.ntmps36]
  subst hN
  refine wpS_of_wp ?_
  change Code.wp _ _ _ { tmps := #[.pointer (some p), .iface 37 (.int .i64 n), .iface 37 (.int .i64 n), undef, undef, undef, undef], defers := [] } w
  go_wp2_with (first
    | (go_at_call 37
       refine (refusal_err n hn w).mono ?_
       rintro e w2 ⟨rfl, rfl⟩))
  simp [bodyPostS, results, Try.results36]
set_option maxHeartbeats 4000000 in
set_option maxRecDepth 20000 in
theorem rpw_str (p : Addr) (x : Int) (u : Value) (older : List PanicEntry) (w : World) (hc : w.cell? p = some (.int .i64 x)) (hz : w.frozen? p = false) :
    CallsD Try.prog 36 #[.pointer (some p)] (.panicking ({ v := .iface 9 u, recovered := false } :: older)) w fun e u' w' => e = .panicked [{ v := .iface 9 u, recovered := false }] ∧ u' = (.panicking ({ v := .iface 9 u, recovered := true } :: older)) ∧ w' = w := by
  refine callsD_of_wpS Try.func36 rfl fun c₀ cs hu => ?_
  apply wpS_seq
  apply wpS_region
  generalize hN : Exit.thenS _ _ = NX
  simp [wpOpsS, go_sem, recoverD, hu, Try.ntmps36]
  subst hN
  refine wpS_of_wp ?_
  change Code.wp _ _ _ { tmps := #[.pointer (some p), .iface 9 u, .iface 9 u, undef, undef, undef, undef], defers := [] } w
  go_wp2_with (first
    | (go_at_call 37
       refine (refusal_str u w).mono ?_
       rintro e w2 ⟨rfl, rfl⟩))
  simp [bodyPostS]
set_option maxHeartbeats 4000000 in
set_option maxRecDepth 20000 in
theorem rpw_none (p : Addr) (x : Int)  (w : World) (hc : w.cell? p = some (.int .i64 x)) (hz : w.frozen? p = false) :
    CallsD Try.prog 36 #[.pointer (some p)] .returning w fun e u' w' => e = .returned (.tuple #[]) ∧ u' = .returning ∧ w' = w := by
  refine callsD_of_wpS Try.func36 rfl fun c₀ cs hu => ?_
  apply wpS_seq
  apply wpS_region
  generalize hN : Exit.thenS _ _ = NX
  simp [wpOpsS, go_sem, recoverD, hu, Try.ntmps36]
  subst hN
  refine wpS_of_wp ?_
  change Code.wp _ _ _ { tmps := #[.pointer (some p), .nilIface, .nilIface, undef, undef, undef, undef], defers := [] } w
  go_wp2
  cases c₀
  simp_all [bodyPostS, results, Try.results36]
theorem wpList_alloc_err {ops : Array Oper} {rest : List Oper} {o : Oper} {a : Act} {w : World} {Q : Exit → Act → World → Prop} (ho : o.op = .alloc 37) (hgd : o.guard = none)
    (h : ∀ b w', w.heap.size ≤ b → w'.rowIs b 37 1 (fun _ => .int .i64 0) → Below w.heap.size w w' → wpList Try.prog ops Q rest (a.put o.dst (.pointer (some ⟨b, 0, none⟩))) w') : wpList Try.prog ops Q (o :: rest) a w :=
  wpList_plain hgd fun _ hK => by
    obtain ⟨i, hq, hz'⟩ : ∃ i, Try.prog.info? 37 = some i ∧ i.zero = some (.int .i64 0) := by
      have h : (Try.prog.info? 37).map (fun i => i.zero) = some (some (.int .i64 0)) := by kernel_rfl
      exact Option.map_eq_some_iff.1 h
    unfold Oper.wp execOp
    simp [ho, Instr.alloc, zeroValue, typeInfo, hq, hz', newVar, newRow, newObj, Value.cells, Result.andThen]
    exact hK _ _ (h _ _ (Nat.le_refl _) (World.rowIs_alloc w #[.int .i64 0] 37 _ (fun i hi => by
      have hi' : i < 1 := hi
      obtain rfl : i = 0 := by omega
      rfl)) ((Below.refl _ _).alloc (Nat.le_refl _) _))
/-- What a call of Read leaves alone. -/
theorem sam_read {O G : Nat → Prop} {w w2 w3 w4 : World} {eb : Nat} (h2 : Below w.heap.size w w2) (h3 : Sam (fun x => O x ∨ G x) w2 w3) (hO : ∀ x, O x → w.heap.size ≤ x) (h4 : Sam (· = eb) w3 w4) (he : w.heap.size ≤ eb) : Sam G w w4 :=
  ⟨h4.os.trans (h3.os.trans h2.os), h4.tape.trans (h3.tape.trans h2.tape), h4.output.trans (h3.output.trans h2.output), Nat.le_trans h2.size (Nat.le_trans h3.size h4.size), fun k hk hG =>
    (h4.block k (Nat.lt_of_lt_of_le hk (Nat.le_trans h2.size h3.size)) (by omega)).trans ((h3.block k (Nat.lt_of_lt_of_le hk h2.size) (fun h => h.elim (fun h => by have := hO k h; omega) hG)).trans (h2.block k hk))⟩
set_option maxHeartbeats 4000000 in
set_option maxRecDepth 20000 in
theorem read_err (F : Nat) (fn : Func) (caps : Array Value) (n : Int) (hn0 : n ≠ 0) (w : World) (vb : Value) (b : List UInt8) (G : Nat → Prop) (R : World → Prop) (hf : Try.prog.funcs[F]? = some fn) (hn : (fn.name == "runtime.NumGoroutine") = false) (hb : fn.body.isNone = false) (hv : Bs w vb b) (hbl : b.length ≤ 200000000) (hG : ∀ x, G x → x < w.heap.size)
    (hR : ∀ wa wb, R wa → Sam (fun x => w.heap.size ≤ x) wa wb → R wb)
    (hc : ∀ w1 O r, Below w.heap.size w w1 → rdAt O w1 r b → (∀ x, O x → w.heap.size ≤ x) → Calls Try.prog F (#[.pointer (some ⟨r, 0, none⟩)] ++ caps) w1 fun e w2 => e = .panicked [{ v := .iface 37 (.int .i64 n), recovered := false }] ∧ R w2 ∧ Sam (fun x => O x ∨ G x) w1 w2)  :
    Calls Try.prog 12 #[vb, .func (.func F) #[] caps] w fun e w' => e = .returned (.int .i64 n) ∧ R w' ∧ Sam G w w' := by
  have hmf : ∀ (fn : Fn) (first cap : Array Value) (w : World), (Instr.makeFunc fn first cap).run Try.prog w = .ok (.func fn first cap) w := fun _ _ _ _ => rfl
  have hcf : ∀ x w, (callFunc F (#[x] ++ caps)).run Try.prog w = .ok (.enter F (#[x] ++ caps)) w := fun x w => run_enter hf hn hb _ w
  have hnf : ∀ w, (binOp .neq 41 (.func (.func F) #[] caps) .nilFunc).run Try.prog w = .ok (.bool true) w := fun _ => by kernel_rfl
  have HV := Lib.hid hv
  have HBL := Lib.hid hbl
  have HG := Lib.hid hG
  have HC := Lib.hid hc
  have HR := Lib.hid hR
  have Bw0 := Below.refl w.heap.size w
  clear hc hR hv hbl hG
  go_enter_defers Try.func12, Try.ntmps12
  go_wp2_with (first
    | (have hgo := Bw0; clear hgo
       refine wpList_alloc_err rfl rfl ?_
       intro eb w1 le r_e kk
       have LE := Lib.hid le
       have RE := Lib.hid r_e
       have L1 := Lib.hid r_e.lt
       have Bw1 := kk
       clear Bw0 kk le r_e)
    | (have hgo := Bw1; clear hgo
       go_at_call 31
       refine (newReader_any _ vb b (HV.out.below Bw1 (Nat.le_refl _)) HBL.out).mono ?_
       rintro e w2 ⟨r, rfl, hr, kk⟩
       have HRD := Lib.hid hr
       have K1 := Lib.hid Bw1.size
       have RE2 := Lib.hid (zrb RE.out kk)
       have Bw2 := Bw1.trans (kk.mono Bw1.size)
       clear Bw1 hr kk))
  refine (HC.out _ _ r Bw2 HRD.out (fun x h => Nat.le_trans K1.out h.1)).mono ?_
  rintro e w3 ⟨rfl, h3, s3⟩
  have HEB : Hid (¬ ((w1.heap.size ≤ eb ∧ eb < w2.heap.size) ∨ G eb)) := Lib.hid fun h => h.elim (fun h => absurd h.1 (Nat.not_le.2 L1.out)) (fun h => absurd (HG.out _ h) (Nat.not_lt.2 LE.out))
  have r3 := Sam.row RE2.out s3 HEB.out
  have c3 := r3.cell (i := 0) (by decide)
  have z3 := r3.frozen 0
  have HO : Hid (∀ x, (w1.heap.size ≤ x ∧ x < w2.heap.size) → w.heap.size ≤ x) := Lib.hid fun x h => Nat.le_trans K1.out h.1
  clear hcf HC HEB
  have q0 := r3.set 0 (.int .i64 n)
  have cl := q0.cell (i := 0) (by decide)
  simp only [if_true] at cl
  refine leaves_cons (f := 36) (args := #[.pointer (some ⟨eb, 0, none⟩)]) (by simp) (by simp [go_sem]) ?_
  refine (rpw_err ⟨eb, 0, none⟩ 0 n hn0 [] _ c3 z3).mono ?_
  rintro e u' w4 ⟨rfl, rfl, rfl⟩
  simp [Leaves, settle, raised, results, Try.results12, go_sem, cl]
  exact ⟨HR.out _ _ h3 (Sam.set _ _ _ LE.out), sam_read Bw2 s3 HO.out (Sam.set _ _ _ rfl) LE.out⟩
set_option maxHeartbeats 4000000 in
set_option maxRecDepth 20000 in
theorem read_str (F : Nat) (fn : Func) (caps : Array Value) (u : Value) (w : World) (vb : Value) (b : List UInt8) (G : Nat → Prop) (R : World → Prop) (hf : Try.prog.funcs[F]? = some fn) (hn : (fn.name == "runtime.NumGoroutine") = false) (hb : fn.body.isNone = false) (hv : Bs w vb b) (hbl : b.length ≤ 200000000) (hG : ∀ x, G x → x < w.heap.size)
    (hR : ∀ wa wb, R wa → Sam (fun x => w.heap.size ≤ x) wa wb → R wb)
    (hc : ∀ w1 O r, Below w.heap.size w w1 → rdAt O w1 r b → (∀ x, O x → w.heap.size ≤ x) → Calls Try.prog F (#[.pointer (some ⟨r, 0, none⟩)] ++ caps) w1 fun e w2 => e = .panicked [{ v := .iface 9 u, recovered := false }] ∧ R w2 ∧ Sam (fun x => O x ∨ G x) w1 w2)  :
    Calls Try.prog 12 #[vb, .func (.func F) #[] caps] w fun e w' => e = .panicked [{ v := .iface 9 u, recovered := false }, { v := .iface 9 u, recovered := true }] ∧ R w' ∧ Sam G w w' := by
  have hmf : ∀ (fn : Fn) (first cap : Array Value) (w : World), (Instr.makeFunc fn first cap).run Try.prog w = .ok (.func fn first cap) w := fun _ _ _ _ => rfl
  have hcf : ∀ x w, (callFunc F (#[x] ++ caps)).run Try.prog w = .ok (.enter F (#[x] ++ caps)) w := fun x w => run_enter hf hn hb _ w
  have hnf : ∀ w, (binOp .neq 41 (.func (.func F) #[] caps) .nilFunc).run Try.prog w = .ok (.bool true) w := fun _ => by kernel_rfl
  have HV := Lib.hid hv
  have HBL := Lib.hid hbl
  have HG := Lib.hid hG
  have HC := Lib.hid hc
  have HR := Lib.hid hR
  have Bw0 := Below.refl w.heap.size w
  clear hc hR hv hbl hG
  go_enter_defers Try.func12, Try.ntmps12
  go_wp2_with (first
    | (have hgo := Bw0; clear hgo
       refine wpList_alloc_err rfl rfl ?_
       intro eb w1 le r_e kk
       have LE := Lib.hid le
       have RE := Lib.hid r_e
       have L1 := Lib.hid r_e.lt
       have Bw1 := kk
       clear Bw0 kk le r_e)
    | (have hgo := Bw1; clear hgo
       go_at_call 31
       refine (newReader_any _ vb b (HV.out.below Bw1 (Nat.le_refl _)) HBL.out).mono ?_
       rintro e w2 ⟨r, rfl, hr, kk⟩
       have HRD := Lib.hid hr
       have K1 := Lib.hid Bw1.size
       have RE2 := Lib.hid (zrb RE.out kk)
       have Bw2 := Bw1.trans (kk.mono Bw1.size)
       clear Bw1 hr kk))
  refine (HC.out _ _ r Bw2 HRD.out (fun x h => Nat.le_trans K1.out h.1)).mono ?_
  rintro e w3 ⟨rfl, h3, s3⟩
  have HEB : Hid (¬ ((w1.heap.size ≤ eb ∧ eb < w2.heap.size) ∨ G eb)) := Lib.hid fun h => h.elim (fun h => absurd h.1 (Nat.not_le.2 L1.out)) (fun h => absurd (HG.out _ h) (Nat.not_lt.2 LE.out))
  have r3 := Sam.row RE2.out s3 HEB.out
  have c3 := r3.cell (i := 0) (by decide)
  have z3 := r3.frozen 0
  have HO : Hid (∀ x, (w1.heap.size ≤ x ∧ x < w2.heap.size) → w.heap.size ≤ x) := Lib.hid fun x h => Nat.le_trans K1.out h.1
  clear hcf HC HEB
  refine leaves_cons (f := 36) (args := #[.pointer (some ⟨eb, 0, none⟩)]) (by simp) (by simp [go_sem]) ?_
  refine (rpw_str ⟨eb, 0, none⟩ 0 u [] _ c3 z3).mono ?_
  rintro e u' w4 ⟨rfl, rfl, rfl⟩
  simp [Leaves, settle, raised, results, Try.results12, go_sem]
  exact ⟨h3, sam_read Bw2 s3 HO.out (Sam.refl _ _) LE.out⟩
set_option maxHeartbeats 4000000 in
set_option maxRecDepth 20000 in
theorem read_ok1 (F : Nat) (fn : Func) (caps : Array Value) (rest : List UInt8) (hrs : rest = []) (w : World) (vb : Value) (b : List UInt8) (G : Nat → Prop) (R : World → Prop) (hf : Try.prog.funcs[F]? = some fn) (hn : (fn.name == "runtime.NumGoroutine") = false) (hb : fn.body.isNone = false) (hv : Bs w vb b) (hbl : b.length ≤ 200000000) (hG : ∀ x, G x → x < w.heap.size)
    (hR : ∀ wa wb, R wa → Sam (fun x => w.heap.size ≤ x) wa wb → R wb)
    (hc : ∀ w1 O r, Below w.heap.size w w1 → rdAt O w1 r b → (∀ x, O x → w.heap.size ≤ x) → Calls Try.prog F (#[.pointer (some ⟨r, 0, none⟩)] ++ caps) w1 fun e w2 => e = .returned (.tuple #[]) ∧ R w2 ∧ ∃ O', rdAt O' w2 r rest ∧ Sam (fun x => O x ∨ G x) w1 w2 ∧ ∀ x, O' x → O x ∨ w1.heap.size ≤ x)  :
    Calls Try.prog 12 #[vb, .func (.func F) #[] caps] w fun e w' => e = .returned (.int .i64 0) ∧ R w' ∧ Sam G w w' := by
  have hmf : ∀ (fn : Fn) (first cap : Array Value) (w : World), (Instr.makeFunc fn first cap).run Try.prog w = .ok (.func fn first cap) w := fun _ _ _ _ => rfl
  have hcf : ∀ x w, (callFunc F (#[x] ++ caps)).run Try.prog w = .ok (.enter F (#[x] ++ caps)) w := fun x w => run_enter hf hn hb _ w
  have hnf : ∀ w, (binOp .neq 41 (.func (.func F) #[] caps) .nilFunc).run Try.prog w = .ok (.bool true) w := fun _ => by kernel_rfl
  have HV := Lib.hid hv
  have HBL := Lib.hid hbl
  have HG := Lib.hid hG
  have HC := Lib.hid hc
  have HR := Lib.hid hR
  have Bw0 := Below.refl w.heap.size w
  clear hc hR hv hbl hG
  go_enter_defers Try.func12, Try.ntmps12
  go_wp2_with (first
    | (have hgo := Bw0; clear hgo
       refine wpList_alloc_err rfl rfl ?_
       intro eb w1 le r_e kk
       have LE := Lib.hid le
       have RE := Lib.hid r_e
       have L1 := Lib.hid r_e.lt
       have Bw1 := kk
       clear Bw0 kk le r_e)
    | (have hgo := Bw1; clear hgo
       go_at_call 31
       refine (newReader_any _ vb b (HV.out.below Bw1 (Nat.le_refl _)) HBL.out).mono ?_
       rintro e w2 ⟨r, rfl, hr, kk⟩
       have HRD := Lib.hid hr
       have K1 := Lib.hid Bw1.size
       have RE2 := Lib.hid (zrb RE.out kk)
       have Bw2 := Bw1.trans (kk.mono Bw1.size)
       clear Bw1 hr kk))
  refine (HC.out _ _ r Bw2 HRD.out (fun x h => Nat.le_trans K1.out h.1)).mono ?_
  rintro e w3 ⟨rfl, h3, O3, hr3, s3, hO3⟩
  have HEB : Hid (¬ ((w1.heap.size ≤ eb ∧ eb < w2.heap.size) ∨ G eb)) := Lib.hid fun h => h.elim (fun h => absurd h.1 (Nat.not_le.2 L1.out)) (fun h => absurd (HG.out _ h) (Nat.not_lt.2 LE.out))
  have r3 := Sam.row RE2.out s3 HEB.out
  have c3 := r3.cell (i := 0) (by decide)
  have z3 := r3.frozen 0
  have HO : Hid (∀ x, (w1.heap.size ≤ x ∧ x < w2.heap.size) → w.heap.size ≤ x) := Lib.hid fun x h => Nat.le_trans K1.out h.1
  clear hcf HC HEB
  have HR3 := Lib.hid hr3
  have HRS := Lib.hid hrs
  clear hr3 hrs hO3
  go_wp2_with (first
    | (have hgo := r3; clear hgo
       go_at_call 38
       refine (rdEnd_ok O3 _ r rest HR3.out HRS.out).mono ?_
       rintro e w5 ⟨rfl, rfl⟩
       have M1 := Lib.hid c3
       clear HRS))
  have q0 := r3.set 0 (.int .i64 0)
  have cl := q0.cell (i := 0) (by decide)
  simp only [if_true] at cl
  refine leaves_cons (f := 36) (args := #[.pointer (some ⟨eb, 0, none⟩)]) (by simp) (by simp [go_sem]) ?_
  refine (rpw_none ⟨eb, 0, none⟩ 0 _ (by simpa using cl) (q0.frozen 0)).mono ?_
  rintro e u' w4 ⟨rfl, rfl, rfl⟩
  simp [Leaves, settle, raised, results, Try.results12, go_sem, cl]
  exact ⟨HR.out _ _ h3 (Sam.set _ _ _ LE.out), sam_read Bw2 s3 HO.out (Sam.set _ _ _ rfl) LE.out⟩
set_option maxHeartbeats 4000000 in
set_option maxRecDepth 20000 in
theorem read_ok2 (F : Nat) (fn : Func) (caps : Array Value) (rest : List UInt8) (hrs : rest ≠ []) (w : World) (vb : Value) (b : List UInt8) (G : Nat → Prop) (R : World → Prop) (hf : Try.prog.funcs[F]? = some fn) (hn : (fn.name == "runtime.NumGoroutine") = false) (hb : fn.body.isNone = false) (hv : Bs w vb b) (hbl : b.length ≤ 200000000) (hG : ∀ x, G x → x < w.heap.size)
    (hR : ∀ wa wb, R wa → Sam (fun x => w.heap.size ≤ x) wa wb → R wb)
    (hc : ∀ w1 O r, Below w.heap.size w w1 → rdAt O w1 r b → (∀ x, O x → w.heap.size ≤ x) → Calls Try.prog F (#[.pointer (some ⟨r, 0, none⟩)] ++ caps) w1 fun e w2 => e = .returned (.tuple #[]) ∧ R w2 ∧ ∃ O', rdAt O' w2 r rest ∧ Sam (fun x => O x ∨ G x) w1 w2 ∧ ∀ x, O' x → O x ∨ w1.heap.size ≤ x)  :
    Calls Try.prog 12 #[vb, .func (.func F) #[] caps] w fun e w' => e = .returned (.int .i64 2) ∧ R w' ∧ Sam G w w' := by
  have hmf : ∀ (fn : Fn) (first cap : Array Value) (w : World), (Instr.makeFunc fn first cap).run Try.prog w = .ok (.func fn first cap) w := fun _ _ _ _ => rfl
  have hcf : ∀ x w, (callFunc F (#[x] ++ caps)).run Try.prog w = .ok (.enter F (#[x] ++ caps)) w := fun x w => run_enter hf hn hb _ w
  have hnf : ∀ w, (binOp .neq 41 (.func (.func F) #[] caps) .nilFunc).run Try.prog w = .ok (.bool true) w := fun _ => by kernel_rfl
  have HV := Lib.hid hv
  have HBL := Lib.hid hbl
  have HG := Lib.hid hG
  have HC := Lib.hid hc
  have HR := Lib.hid hR
  have Bw0 := Below.refl w.heap.size w
  clear hc hR hv hbl hG
  go_enter_defers Try.func12, Try.ntmps12
  go_wp2_with (first
    | (have hgo := Bw0; clear hgo
       refine wpList_alloc_err rfl rfl ?_
       intro eb w1 le r_e kk
       have LE := Lib.hid le
       have RE := Lib.hid r_e
       have L1 := Lib.hid r_e.lt
       have Bw1 := kk
       clear Bw0 kk le r_e)
    | (have hgo := Bw1; clear hgo
       go_at_call 31
       refine (newReader_any _ vb b (HV.out.below Bw1 (Nat.le_refl _)) HBL.out).mono ?_
       rintro e w2 ⟨r, rfl, hr, kk⟩
       have HRD := Lib.hid hr
       have K1 := Lib.hid Bw1.size
       have RE2 := Lib.hid (zrb RE.out kk)
       have Bw2 := Bw1.trans (kk.mono Bw1.size)
       clear Bw1 hr kk))
  refine (HC.out _ _ r Bw2 HRD.out (fun x h => Nat.le_trans K1.out h.1)).mono ?_
  rintro e w3 ⟨rfl, h3, O3, hr3, s3, hO3⟩
  have HEB : Hid (¬ ((w1.heap.size ≤ eb ∧ eb < w2.heap.size) ∨ G eb)) := Lib.hid fun h => h.elim (fun h => absurd h.1 (Nat.not_le.2 L1.out)) (fun h => absurd (HG.out _ h) (Nat.not_lt.2 LE.out))
  have r3 := Sam.row RE2.out s3 HEB.out
  have c3 := r3.cell (i := 0) (by decide)
  have z3 := r3.frozen 0
  have HO : Hid (∀ x, (w1.heap.size ≤ x ∧ x < w2.heap.size) → w.heap.size ≤ x) := Lib.hid fun x h => Nat.le_trans K1.out h.1
  clear hcf HC HEB
  have HR3 := Lib.hid hr3
  have HRS := Lib.hid hrs
  clear hr3 hrs hO3
  go_wp2_with (first
    | (have hgo := r3; clear hgo
       go_at_call 38
       refine (rdEnd_bad O3 _ r rest HR3.out HRS.out).mono ?_
       rintro e w5 ⟨rfl, rfl⟩
       have M1 := Lib.hid c3
       clear HRS))
  have q0 := r3.set 0 (.int .i64 2)
  have cl := q0.cell (i := 0) (by decide)
  simp only [if_true] at cl
  refine leaves_cons (f := 36) (args := #[.pointer (some ⟨eb, 0, none⟩)]) (by simp) (by simp [go_sem]) ?_
  refine (rpw_err ⟨eb, 0, none⟩ 0 2 (by decide) [] _ c3 z3).mono ?_
  rintro e u' w4 ⟨rfl, rfl, rfl⟩
  simp [Leaves, settle, raised, results, Try.results12, go_sem, cl]
  exact ⟨HR.out _ _ h3 (Sam.set _ _ _ LE.out), sam_read Bw2 s3 HO.out (Sam.set _ _ _ rfl) LE.out⟩
theorem readApi : ReadApi rdAt where
  ok := fun F fn caps w vb b rest G R h1 h2 h3 h4 h5 hG h6 h7 => by
    by_cases h : rest = []
    · rw [if_pos h]
      exact read_ok1 F fn caps rest h w vb b G R h1 h2 h3 h4 h5 hG h6 h7
    · rw [if_neg h]
      exact read_ok2 F fn caps rest h w vb b G R h1 h2 h3 h4 h5 hG h6 h7
end Go.Proofs.Ytllppgfajbbbaaa

/- Chapter 14's awake. -/
namespace Go.Proofs.Ytllppgfajbbbaaa
open Go.RowKit Go.Deep
set_option linter.unusedSimpArgs false
set_option linter.unusedVariables false

theorem wstrG {ops : Array Oper} {rest : List Oper} {o : Oper} {a : Act} {w : World} {Q : Exit → Act → World → Prop} {x : Operand} {v : Value} {l : List UInt8} (ho : o.op = .convert 29 9 x) (hx : a.eval x = v) (hB : Bs w v l) (hw : Region.wanted o (yielded ops a.tmps) = true)
    (h : wpList Try.prog ops Q rest (a.put o.dst (.string ⟨l.toArray⟩)) w) : wpList Try.prog ops Q (o :: rest) a w := by
  exact wpList_value_given hw _ (by rw [exec_mkOp, ho]; exact exec_str _ _ _ hx hB) h
theorem wseqG {ops : Array Oper} {rest : List Oper} {o : Oper} {a : Act} {w : World} {Q : Exit → Act → World → Prop} {x y : Operand} {l : List UInt8} (ho : o.op = .binOp .eql 9 x y 9) (hx : a.eval x = .string ⟨l.toArray⟩) (hy : a.eval y = .string ⟨l.toArray⟩) (hw : Region.wanted o (yielded ops a.tmps) = true)
    (h : wpList Try.prog ops Q rest (a.put o.dst (.bool true)) w) : wpList Try.prog ops Q (o :: rest) a w :=
  wpList_value_given hw _ (by rw [exec_mkOp, ho]; exact exec_strW _ _ _ _ hx hy) h
theorem sam_below_set {w w2 : World} {eb : Nat} {v : Value} (h : Below w.heap.size w w2) (he : w.heap.size ≤ eb) : Below w.heap.size w (w2.setCell ⟨eb, 0, none⟩ v) :=
  h.grown (grownBy_set _ _ _ _) h.size (fun k hk => by cases hk; exact he)
set_option maxHeartbeats 4000000 in
set_option maxRecDepth 20000 in
theorem read_nil (w : World) (vb : Value) (b : List UInt8) (hv : Bs w vb b) (hbl : b.length ≤ 200000000) (hne : b ≠ []) : Calls Try.prog 12 #[vb, .nilFunc] w fun e w' => e = .returned (.int .i64 2) ∧ Below w.heap.size w w' := by
  have hmf : ∀ (fn : Fn) (first cap : Array Value) (w : World), (Instr.makeFunc fn first cap).run Try.prog w = .ok (.func fn first cap) w := fun _ _ _ _ => rfl
  have hnf : ∀ w, (binOp .neq 41 .nilFunc .nilFunc).run Try.prog w = .ok (.bool false) w := fun _ => by kernel_rfl
  have HV := Lib.hid hv
  have HBL := Lib.hid hbl
  have HNE := Lib.hid hne
  have Bw0 := Below.refl w.heap.size w
  clear hv hbl hne
  go_enter_defers Try.func12, Try.ntmps12
  go_wp2_with (first
    | (have hgo := Bw0; clear hgo
       refine wpList_alloc_err rfl rfl ?_
       intro eb w1 le r_e kk
       have LE := Lib.hid le
       have RE := Lib.hid r_e
       have L1 := Lib.hid r_e.lt
       have Bw1 := kk
       clear Bw0 kk le r_e)
    | (have hgo := Bw1; clear hgo
       go_at_call 31
       refine (newReader_any _ vb b (HV.out.below Bw1 (Nat.le_refl _)) HBL.out).mono ?_
       rintro e w2 ⟨r, rfl, hr, kk⟩
       have HRD := Lib.hid hr
       have K1 := Lib.hid Bw1.size
       have RE2 := Lib.hid (zrb RE.out kk)
       have Bw2 := Bw1.trans (kk.mono Bw1.size)
       have M2 := Lib.hid kk
       clear Bw1 hr kk)
    | (have hgo := M2; clear hgo
       go_at_call 38
       refine (rdEnd_bad _ _ r b HRD.out HNE.out).mono ?_
       rintro e w5 ⟨rfl, rfl⟩
       clear M2))
  have c3 := RE2.out.cell (i := 0) (by decide)
  have z3 := RE2.out.frozen 0
  refine leaves_cons (f := 36) (args := #[.pointer (some ⟨eb, 0, none⟩)]) (by simp) (by simp [go_sem]) ?_
  refine (rpw_err ⟨eb, 0, none⟩ 0 2 (by decide) [] _ c3 z3).mono ?_
  rintro e u' w4 ⟨rfl, rfl, rfl⟩
  have q0 := RE2.out.set 0 (.int .i64 2)
  have cl := q0.cell (i := 0) (by decide)
  simp only [if_true] at cl
  simp [Leaves, settle, raised, results, Try.results12, go_sem, cl]
  exact sam_below_set Bw2 LE.out
set_option maxHeartbeats 4000000 in
set_option maxRecDepth 20000 in
theorem rdNum_bad (O : Nat → Prop) (w : World) (y : Nat) (hR : rdAt O w y []) : Calls Try.prog 32 #[.pointer (some ⟨y, 0, none⟩)] w fun e w' => e = .panicked [{ v := .iface 37 (.int .i64 2), recovered := false }] ∧ Below w.heap.size w w' := by
  obtain ⟨s, hy, hlt, r_y, f_s⟩ := hR
  obtain ⟨a, n0, cap, rfl, hn0, q2, q3, q4⟩ := f_s.bs.shape
  have HY := Lib.hid hy
  have HLT := Lib.hid hlt
  have HB := Lib.hid f_s
  have Bw0 := Below.refl w.heap.size w
  have HBS : Hid (∀ {w1 : World}, Below w.heap.size w w1 → BsK (fun x => ¬ O x ∨ x = y) w1 (.slice a n0 cap) []) := Lib.hid fun k => HB.out.step (Sam.of_below k)
  obtain rfl : n0 = 0 := (by simp at hn0; omega)
  clear hy hlt f_s hn0 q2 q3 q4
  go_enter Try.func32, Try.ntmps32
  go_wp2_with (first
    | (have hgo := Bw0; clear hgo
       go_at_call 47
       refine (rest_any _ y a 0 cap r_y).mono ?_
       rintro e w1 ⟨rfl, rfl⟩
       have Bw1 := Bw0
       clear Bw0)
    | (have hgo := Bw1; clear hgo
       go_at_call 52
       refine (rnumber_bad _ a cap HB.out.bs).mono ?_
       rintro e w2 ⟨rfl, rfl⟩))
  simp [bodyPost, Try.func32, Bw1]
set_option maxHeartbeats 4000000 in
set_option maxRecDepth 20000 in
theorem aw1_any (w : World) : Calls Try.prog 30 #[] w fun e w' => e = .panicked [{ v := .iface 37 (.int .i64 2), recovered := false }] ∧ Below w.heap.size w w' := by
  have Bw0 := Below.refl w.heap.size w
  go_enter Try.func30, Try.ntmps30
  go_wp2_with (first
    | (have hgo := Bw0; clear hgo
       go_at_call 31
       refine (newReader_any _ _ [] (Bs.nil _) (by decide)).mono ?_
       rintro e w1 ⟨r, rfl, hr, kk⟩
       have HR := Lib.hid hr
       have Bw1 := kk
       clear Bw0 hr kk)
    | (have hgo := Bw1; clear hgo
       go_at_call 32
       refine (rdNum_bad _ _ r HR.out).mono ?_
       rintro e w2 ⟨rfl, kk⟩
       have Bw2 := Bw1.trans (kk.mono Bw1.size)
       clear Bw1 kk))
  simp [bodyPost, Try.func30, Bw2]
theorem zeroW : (Try.prog.info? 27).map (fun i => i.zero) = some (some (.agg (arrOf 2 (ptF (.pointer none) (.int .i64 0))))) := by kernel_rfl
theorem zeroW_at (w : World) (b : Nat) (h : w.rowIs b 27 2 (ptF (.pointer none) (.int .i64 0))) : wrAt (· = b) w b [] :=
  ⟨fun _ => False, .pointer none, [], fun x => ⟨fun h => .inl h, fun h => h.elim id fun h => h.elim⟩, fun h => h, fun x h => h.elim, h, rfl, rfl⟩
theorem wpList_alloc_W {ops : Array Oper} {rest : List Oper} {o : Oper} {a : Act} {w : World} {Q : Exit → Act → World → Prop} (ho : o.op = .alloc 27) (hgd : o.guard = none)
    (h : ∀ b w', w.heap.size ≤ b → wrAt (· = b) w' b [] → Below w.heap.size w w' → wpList Try.prog ops Q rest (a.put o.dst (.pointer (some ⟨b, 0, none⟩))) w') : wpList Try.prog ops Q (o :: rest) a w :=
  wpList_alloc_row hgd 27 ho 2 (ptF (.pointer none) (.int .i64 0)) zeroW fun b w' h1 h2 h3 => h b w' h1 (zeroW_at _ _ h2) h3
theorem wbyte1 {ops : Array Oper} {rest : List Oper} {o : Oper} {a : Act} {w : World} {Q : Exit → Act → World → Prop} (ho : o.op = .buildSlice 29 1 #[(0, .const (.int .u8 1))]) (hw : Region.wanted o (yielded ops a.tmps) = true)
    (h : ∀ v w', Bs w' v [1] → Below w.heap.size w w' → wpList Try.prog ops Q rest (a.put o.dst v) w') : wpList Try.prog ops Q (o :: rest) a w :=
  wpList_given hw fun _ hK => by
    have hx : (execOp a.eval (mkOp (.buildSlice 29 1 #[(0, .const (.int .u8 1))]) o.type)).run Try.prog w = .ok (.value (.slice (some ⟨w.heap.size, 0, none⟩) 1 1)) (w.alloc (.cells #[.int .u8 1] 5)) := by
      simp only [execOp, mkOp, List.map_toArray, List.map_cons, List.map_nil, eval_const]
      go_simp
    unfold Oper.wp
    rw [exec_mkOp, ho, hx]
    exact hK _ _ (h _ _ (show Owns _ w.heap.size _ [1] from OwnV.laid w 5 #[.int .u8 1] 1 rfl (by unfold maxLen; omega)).bs ((Below.refl _ _).alloc (Nat.le_refl _) _))
theorem num300 : numL7 300 = [172, 2] := by decide +kernel
set_option maxHeartbeats 4000000 in
set_option maxRecDepth 20000 in
theorem awake14_any (w : World) : Calls Try.prog 8 #[] w fun e w' => e = .returned (.bool true) ∧ Below w.heap.size w w' := by
  have Bw0 := Below.refl w.heap.size w
  have HGS : Hid (∀ wq : World, Below w.heap.size w wq → w.heap.size ≤ wq.heap.size) := Lib.hid fun wq h => h.size
  go_enter Try.func8, Try.ntmps8
  go_wp2_with (first
    | (have hgo := Bw0; clear hgo
       refine wpList_alloc_W rfl rfl ?_
       intro y w1 ly hW kk
       have HW := Lib.hid hW
       have LY := Lib.hid ly
       have Bw1 := kk
       clear Bw0 kk hW ly)
    | (have hgo := Bw1; clear hgo
       go_at_call 29
       refine (wrNum_any _ _ y [] 300 HW.out (by decide) (by decide)).mono ?_
       rintro e w2 ⟨rfl, h2⟩
       obtain ⟨O2, hW2, s2, hO2⟩ := h2
       have HW2 := Lib.hid hW2
       have Bw2 := Bw1.trans (s2.below (fun b hb => by rw [hb]; exact LY.out) Bw1.size)
       clear Bw1 hW2 s2 hO2 HW)
    | (have hgo := Bw2; clear hgo
       go_at_call 11
       refine (wrDone_any _ _ y _ HW2.out (by rw [num300]; decide)).mono ?_
       rintro e w3 ⟨v3, rfl, f3, kk⟩
       have Bw3 := Bw2.trans (kk.mono Bw2.size)
       rw [List.nil_append, num300] at f3
       clear Bw2 kk HW2)
    | (have hgo := Bw3; clear hgo
       refine wstrG rfl rfl f3 rfl ?_)
    | (have hgo := Bw3; clear hgo
       refine wseqG (l := [172, 2]) rfl rfl rfl rfl ?_)
    | (have hgo := Bw3; clear hgo
       go_at_call 17
       refine (panics_err 30 _ #[] 2 [] rfl _ Try.func30 (by kernel_rfl) (by kernel_rfl) (fun w1 w2 => Below w1.heap.size w1 w2 ∧ w3.heap.size < w1.heap.size) (fun w1 w2 h => h.1.block _ h.2) ((aw1_any _).mono fun e w2 h => ⟨h.1, h.2, by simp⟩)).mono ?_
       rintro e w4 ⟨rfl, w5, h5, g5⟩
       have Bw4 : Below w.heap.size w w4 := by
         have a1 := (Below.refl w3.heap.size w3).alloc (Nat.le_refl _) (.cells #[.int .i64 0] 3)
         have a2 := a1.trans (h5.1.mono (Nat.le_of_lt h5.2))
         exact Bw3.trans ((a2.grown g5 (Nat.le_trans a1.size h5.1.size) (fun k hk => by cases hk; exact Nat.le_refl _)).mono Bw3.size)
       clear Bw3 h5 g5 f3)
    | (have hgo := Bw4; clear hgo
       refine wbyte1 rfl rfl ?_
       intro v5 w5 f5 kk
       have Bw5 := Bw4.trans (kk.mono Bw4.size)
       clear Bw4 kk)
    | (have hgo := Bw5; clear hgo
       go_at_call 12
       refine (read_nil _ v5 [1] f5 (by decide) (by decide)).mono ?_
       rintro e w6 ⟨rfl, kk⟩
       have Bw6 := Bw5.trans (kk.mono Bw5.size)
       clear Bw5 kk f5))
  go_ret
  exact ⟨rfl, Bw6⟩
end Go.Proofs.Ytllppgfajbbbaaa

/- Chapter 14's statements: how deep a panic lies. -/
namespace Go.Proofs.Ytllppgfajbbbaaa
open Go.RowKit Go.Deep
set_option linter.unusedSimpArgs false
set_option linter.unusedVariables false

theorem one_set {w : World} {b : Nat} {m : Nat} (h : w.rowIs b 3 1 (fun _ => .int .i64 (m : Int))) (x : Nat) : (w.setCell ⟨b, 0, none⟩ (.int .i64 (x : Int))).rowIs b 3 1 (fun _ => .int .i64 (x : Int)) := (h.set 0 (.int .i64 (x : Int))).congr fun j hj => by
  obtain rfl : j = 0 := by omega
  rfl
def caps4 (pn pd po pc : Nat) : Array Value := #[.pointer (some ⟨pn, 0, none⟩), .pointer (some ⟨pd, 0, none⟩), .pointer (some ⟨po, 0, none⟩), .pointer (some ⟨pc, 0, none⟩)]
def leftBy (other : Bool) (code : Int) : Value := if other then .iface 9 (.string ⟨#[111, 116, 104, 101, 114]⟩) else .iface 37 (.int .i64 code)
set_option maxHeartbeats 4000000 in
theorem down_any (pn pd po pc : Nat) (other : Bool) (code : Int) (hd : pd ≠ pn) (ho : po ≠ pn) (hc : pc ≠ pn) (k : Nat) (hk : k ≤ 50) : ∀ (m : Nat) (w : World), m + k ≤ 1000 → w.rowIs pn 3 1 (fun _ => .int .i64 (m : Int)) →
    w.cell? ⟨pd, 0, none⟩ = some (.func (.func 16) #[] (caps4 pn pd po pc)) → w.cell? ⟨po, 0, none⟩ = some (.bool other) → w.cell? ⟨pc, 0, none⟩ = some (.int .i64 code) →
    Calls Try.prog 16 #[.int .i64 (k : Int), .pointer (some ⟨pn, 0, none⟩), .pointer (some ⟨pd, 0, none⟩), .pointer (some ⟨po, 0, none⟩), .pointer (some ⟨pc, 0, none⟩)] w fun e w' => e = .panicked [{ v := leftBy other code, recovered := false }] ∧ w'.rowIs pn 3 1 (fun _ => .int .i64 ((m + k + 1 : Nat) : Int)) ∧ w.grownBy w' (some pn) := by
  induction k with
  | zero =>
    intro m w hm rn cd co cc
    have cn := rn.cell (i := 0) (by decide)
    have zn := rn.frozen 0
    have hw : IntKind.i64.wrap ((m : Int) + 1) = ((m + 1 : Nat) : Int) := by rw [IntWalk.i64_in _ (by omega)]; omega
    obtain ⟨m1, hm1⟩ := nat_var (m + 1)
    have hsum : m + 0 + 1 = m1 := hm1.symm
    rw [← hm1] at hw
    have r2 := one_set rn m1
    have HR := Lib.hid r2
    have HS := Lib.hid hsum
    have co2 : (w.setCell ⟨pn, 0, none⟩ (.int .i64 (m1 : Int))).cell? ⟨po, 0, none⟩ = some (.bool other) := by rw [← co]; exact World.cell?_setCell_far w ⟨pn, 0, none⟩ ⟨po, 0, none⟩ _ (Ne.symm ho)
    have cc2 : (w.setCell ⟨pn, 0, none⟩ (.int .i64 (m1 : Int))).cell? ⟨pc, 0, none⟩ = some (.int .i64 code) := by rw [← cc]; exact World.cell?_setCell_far w ⟨pn, 0, none⟩ ⟨pc, 0, none⟩ _ (Ne.symm hc)
    clear hsum hm1 r2
    cases other
    · go_enter Try.func16, Try.ntmps16
      go_wp2
      simp only [bodyPost]
      exact ⟨trivial, rfl, by rw [HS.out]; exact HR.out, grownBy_set _ _ _ _⟩
    · go_enter Try.func16, Try.ntmps16
      go_wp2
      simp only [bodyPost]
      exact ⟨trivial, rfl, by rw [HS.out]; exact HR.out, grownBy_set _ _ _ _⟩
  | succ k ih =>
    intro m w hm rn cd co cc
    have cn := rn.cell (i := 0) (by decide)
    have zn := rn.frozen 0
    have hw : IntKind.i64.wrap ((m : Int) + 1) = ((m + 1 : Nat) : Int) := by rw [IntWalk.i64_in _ (by omega)]; omega
    have hw1 : IntKind.i64.wrap (((k + 1 : Nat) : Int) - 1) = (k : Int) := by rw [IntWalk.i64_in _ (by omega)]; omega
    obtain ⟨m1, hm1⟩ := nat_var (m + 1)
    have hsum : m1 + k + 1 = m + (k + 1) + 1 := by omega
    rw [← hm1] at hw
    obtain ⟨k1, hk1⟩ := nat_var (k + 1)
    rw [← hk1] at hw1
    rw [show ((k + 1 : Nat) : Int) = (k1 : Int) by omega]
    have hpos : 0 < (k1 : Int) := by omega
    have r2 := one_set rn m1
    have cd2 : (w.setCell ⟨pn, 0, none⟩ (.int .i64 (m1 : Int))).cell? ⟨pd, 0, none⟩ = some (.func (.func 16) #[] (caps4 pn pd po pc)) := by rw [← cd]; exact World.cell?_setCell_far w ⟨pn, 0, none⟩ ⟨pd, 0, none⟩ _ (Ne.symm hd)
    have co2 : (w.setCell ⟨pn, 0, none⟩ (.int .i64 (m1 : Int))).cell? ⟨po, 0, none⟩ = some (.bool other) := by rw [← co]; exact World.cell?_setCell_far w ⟨pn, 0, none⟩ ⟨po, 0, none⟩ _ (Ne.symm ho)
    have cc2 : (w.setCell ⟨pn, 0, none⟩ (.int .i64 (m1 : Int))).cell? ⟨pc, 0, none⟩ = some (.int .i64 code) := by rw [← cc]; exact World.cell?_setCell_far w ⟨pn, 0, none⟩ ⟨pc, 0, none⟩ _ (Ne.symm hc)
    have IH := Lib.hid (ih (by omega) m1 _ (by omega) r2 cd2 co2 cc2)
    have HS := Lib.hid hsum
    unfold caps4 at cd cd2
    clear hsum hm1 hk1 r2 ih co2 cc2
    go_enter Try.func16, Try.ntmps16
    go_wp2_with (first | (go_at_call 16; refine IH.out.mono ?_; rintro e w2 ⟨rfl, r3, g3⟩))
    simp only [bodyPost]
    exact ⟨trivial, trivial, by rw [← HS.out]; exact r3, grownBy_trans (grownBy_set _ _ _ _) g3⟩
set_option maxHeartbeats 4000000 in
theorem deep_any (x : Value) (pn pd po pc pk : Nat) (other : Bool) (code : Int) (hd : pd ≠ pn) (ho : po ≠ pn) (hc : pc ≠ pn) (k : Nat) (hk : k ≤ 50) (w : World) (rn : w.rowIs pn 3 1 (fun _ => .int .i64 ((0 : Nat) : Int)))
    (cd : w.cell? ⟨pd, 0, none⟩ = some (.func (.func 16) #[] (caps4 pn pd po pc))) (co : w.cell? ⟨po, 0, none⟩ = some (.bool other)) (cc : w.cell? ⟨pc, 0, none⟩ = some (.int .i64 code)) (ck : w.cell? ⟨pk, 0, none⟩ = some (.int .i64 (k : Int))) :
    Calls Try.prog 19 #[x, .pointer (some ⟨pd, 0, none⟩), .pointer (some ⟨pk, 0, none⟩)] w fun e w' => e = .panicked [{ v := leftBy other code, recovered := false }] ∧ w'.rowIs pn 3 1 (fun _ => .int .i64 ((k + 1 : Nat) : Int)) ∧ w.grownBy w' (some pn) := by
  have HD := Lib.hid (down_any pn pd po pc other code hd ho hc k hk 0 w (by omega) rn cd co cc)
  unfold caps4 at cd
  clear rn co cc
  go_enter Try.func19, Try.ntmps19
  go_wp2_with (first | (go_at_call 16; refine HD.out.mono ?_; rintro e w2 ⟨rfl, r3, g3⟩))
  simp only [bodyPost]
  exact ⟨trivial, trivial, by rw [show k + 1 = 0 + k + 1 by omega]; exact r3, g3⟩
end Go.Proofs.Ytllppgfajbbbaaa

/- WireRecovers' closure about the program's Read. -/
namespace Go.Proofs.Ytllppgfajbbbaaa
open Go.RowKit Go.Deep
set_option linter.unusedSimpArgs false
set_option linter.unusedVariables false

set_option maxHeartbeats 4000000 in
set_option maxRecDepth 20000 in
theorem mid_err (pn pd po pc pk pe : Nat) (code : Int) (hd : pd ≠ pn) (ho : po ≠ pn) (hc : pc ≠ pn) (he : pe ≠ pn) (k : Nat) (hk : k ≤ 50) (w : World) (rn : w.rowIs pn 3 1 (fun _ => .int .i64 ((0 : Nat) : Int)))
    (cd : w.cell? ⟨pd, 0, none⟩ = some (.func (.func 16) #[] (caps4 pn pd po pc))) (co : w.cell? ⟨po, 0, none⟩ = some (.bool false)) (cc : w.cell? ⟨pc, 0, none⟩ = some (.int .i64 code)) (ck : w.cell? ⟨pk, 0, none⟩ = some (.int .i64 (k : Int))) (re : w.rowIs pe 37 1 (fun _ => .int .i64 0)) (h0 : code ≠ 0) :
    Calls Try.prog 18 #[.pointer (some ⟨pd, 0, none⟩), .pointer (some ⟨pk, 0, none⟩), .pointer (some ⟨pe, 0, none⟩)] w fun e w' => e = .returned (.tuple #[]) ∧ w'.rowIs pn 3 1 (fun _ => .int .i64 ((k + 1 : Nat) : Int)) ∧ w'.rowIs pe 37 1 (fun _ => .int .i64 code) ∧ Sam (fun b => b = pn ∨ b = pe) w w' := by
  have H0 := Lib.hid h0
  clear h0
  have tr : ∀ (w1 : World), Below w.heap.size w w1 → ∀ (p : Addr) (v : Value), w.cell? p = some v → w1.cell? p = some v := fun w1 B2 p v h => (B2.cell (p := p) (World.block_lt_of_cell? w _ h)).trans h
  have HQ : Hid (∀ (w1 : World) (x : Value), Below w.heap.size w w1 → Calls Try.prog 19 #[x, .pointer (some ⟨pd, 0, none⟩), .pointer (some ⟨pk, 0, none⟩)] w1 fun e w2 => e = .panicked [{ v := leftBy false code, recovered := false }] ∧ w2.rowIs pn 3 1 (fun _ => .int .i64 ((k + 1 : Nat) : Int)) ∧ w1.grownBy w2 (some pn)) := Lib.hid fun w1 x hb => deep_any x pn pd po pc pk false code hd ho hc k hk w1 (zrb rn hb) (tr w1 hb _ _ cd) (tr w1 hb _ _ co) (tr w1 hb _ _ cc) (tr w1 hb _ _ ck)
  have HE : Hid (pn < w.heap.size) := Lib.hid rn.lt
  have HN := Lib.hid he
  have hmf : ∀ (fn : Fn) (first cap : Array Value) (w : World), (Instr.makeFunc fn first cap).run Try.prog w = .ok (.func fn first cap) w := fun _ _ _ _ => rfl
  clear rn cd co cc ck tr
  go_enter Try.func18, Try.ntmps18
  go_wp2_with (first
    | (have hgo := HQ; clear hgo
       go_at_call 12
       refine (read_err 19 _ #[.pointer (some ⟨pd, 0, none⟩), .pointer (some ⟨pk, 0, none⟩)] code H0.out w (.slice none 0 0) [] (· = pn) (fun wx => wx.rowIs pn 3 1 (fun _ => .int .i64 ((k + 1 : Nat) : Int))) Try.func19 (by kernel_rfl) (by kernel_rfl) (Bs.nil _) (by decide) (fun x h => by rw [h]; exact HE.out) (fun wa wb h s => Sam.row h s (Nat.not_le.2 HE.out)) (fun w1 O1 r hb1 hr1 ho1 => (HQ.out w1 _ hb1).mono fun e w2 h => ⟨h.1, h.2.1, Sam.of_grown h.2.2 fun b hb => .inr (Option.some.inj hb).symm⟩)).mono ?_
       rintro e w3 ⟨rfl, r3, s3⟩
       replace re := Sam.row re s3 HN.out
       have R3 := Lib.hid r3
       have S3 := Lib.hid s3
       have M1 := Lib.hid r3.lt
       clear HQ r3 s3)
    | (have hgo := M1; clear hgo
       refine wpList_storeG 37 (.tmp 2) (.tmp 4) rfl rfl (fun _ => .int .i64 code) re rfl rfl (by kernel_rfl) rfl rfl (by omega) (fun j hj => by obtain rfl : j = 0 := (by omega); rfl) ?_
       intro w4 q4 s4
       clear M1))
  simp only [bodyPost]
  exact ⟨trivial, .tuple #[], by simp [results, Try.results18], rfl, Sam.row R3.out s4 (fun h => HN.out h.symm), q4, (S3.out.mono fun b _ h => .inl h).trans (s4.mono fun b _ h => .inr h)⟩
set_option maxHeartbeats 4000000 in
set_option maxRecDepth 20000 in
theorem mid_str (pn pd po pc pk pe : Nat) (code : Int) (hd : pd ≠ pn) (ho : po ≠ pn) (hc : pc ≠ pn) (he : pe ≠ pn) (k : Nat) (hk : k ≤ 50) (w : World) (rn : w.rowIs pn 3 1 (fun _ => .int .i64 ((0 : Nat) : Int)))
    (cd : w.cell? ⟨pd, 0, none⟩ = some (.func (.func 16) #[] (caps4 pn pd po pc))) (co : w.cell? ⟨po, 0, none⟩ = some (.bool true)) (cc : w.cell? ⟨pc, 0, none⟩ = some (.int .i64 code)) (ck : w.cell? ⟨pk, 0, none⟩ = some (.int .i64 (k : Int))) (re : w.rowIs pe 37 1 (fun _ => .int .i64 0)) :
    Calls Try.prog 18 #[.pointer (some ⟨pd, 0, none⟩), .pointer (some ⟨pk, 0, none⟩), .pointer (some ⟨pe, 0, none⟩)] w fun e w' => e = .panicked [{ v := leftBy true code, recovered := false }, { v := leftBy true code, recovered := true }] ∧ w'.rowIs pn 3 1 (fun _ => .int .i64 ((k + 1 : Nat) : Int)) ∧ w'.rowIs pe 37 1 (fun _ => .int .i64 0) ∧ Sam (fun b => b = pn ∨ b = pe) w w' := by
  have tr : ∀ (w1 : World), Below w.heap.size w w1 → ∀ (p : Addr) (v : Value), w.cell? p = some v → w1.cell? p = some v := fun w1 B2 p v h => (B2.cell (p := p) (World.block_lt_of_cell? w _ h)).trans h
  have HQ : Hid (∀ (w1 : World) (x : Value), Below w.heap.size w w1 → Calls Try.prog 19 #[x, .pointer (some ⟨pd, 0, none⟩), .pointer (some ⟨pk, 0, none⟩)] w1 fun e w2 => e = .panicked [{ v := leftBy true code, recovered := false }] ∧ w2.rowIs pn 3 1 (fun _ => .int .i64 ((k + 1 : Nat) : Int)) ∧ w1.grownBy w2 (some pn)) := Lib.hid fun w1 x hb => deep_any x pn pd po pc pk true code hd ho hc k hk w1 (zrb rn hb) (tr w1 hb _ _ cd) (tr w1 hb _ _ co) (tr w1 hb _ _ cc) (tr w1 hb _ _ ck)
  have HE : Hid (pn < w.heap.size) := Lib.hid rn.lt
  have HN := Lib.hid he
  have hmf : ∀ (fn : Fn) (first cap : Array Value) (w : World), (Instr.makeFunc fn first cap).run Try.prog w = .ok (.func fn first cap) w := fun _ _ _ _ => rfl
  clear rn cd co cc ck tr
  go_enter Try.func18, Try.ntmps18
  go_wp2_with (first
    | (have hgo := HQ; clear hgo
       go_at_call 12
       refine (read_str 19 _ #[.pointer (some ⟨pd, 0, none⟩), .pointer (some ⟨pk, 0, none⟩)] (.string ⟨#[111, 116, 104, 101, 114]⟩) w (.slice none 0 0) [] (· = pn) (fun wx => wx.rowIs pn 3 1 (fun _ => .int .i64 ((k + 1 : Nat) : Int))) Try.func19 (by kernel_rfl) (by kernel_rfl) (Bs.nil _) (by decide) (fun x h => by rw [h]; exact HE.out) (fun wa wb h s => Sam.row h s (Nat.not_le.2 HE.out)) (fun w1 O1 r hb1 hr1 ho1 => (HQ.out w1 _ hb1).mono fun e w2 h => ⟨h.1, h.2.1, Sam.of_grown h.2.2 fun b hb => .inr (Option.some.inj hb).symm⟩)).mono ?_
       rintro e w3 ⟨rfl, r3, s3⟩
       replace re := Sam.row re s3 HN.out))
  simp only [bodyPost]
  exact ⟨by first | trivial | rfl, by first | trivial | rfl, r3, re, s3.mono fun b _ h => .inl h⟩
end Go.Proofs.Ytllppgfajbbbaaa

/- WireLimits: Block, the two closures. -/
namespace Go.Proofs.Ytllppgfajbbbaaa
open Go.RowKit Go.Deep
set_option linter.unusedSimpArgs false
set_option linter.unusedVariables false

theorem wmax {ops : Array Oper} {rest : List Oper} {o : Oper} {a : Act} {w : World} {Q : Exit → Act → World → Prop} (hgd : o.guard = none) (x y : Operand) {ts : Array TypeId} (ho : o.op = .call { callee := .builtin .max, args := #[x, y], argTypes := ts }) {k : IntKind} {i j m : Int}
    (hx : a.eval x = .int k i) (hy : a.eval y = .int k j) (hm : m = if i < j then j else i) (h : wpList Try.prog ops Q rest (a.put o.dst (.int k m)) w) : wpList Try.prog ops Q (o :: rest) a w := by
  refine wpList_value hgd (.int k m) ?_ h
  subst hm
  simp [execOp, ho, resolve, invoke, builtin, hx, hy, run_max_int2, Result.andThen]
theorem wmakeO {ops : Array Oper} {rest : List Oper} {o : Oper} {a : Act} {w : World} {Q : Exit → Act → World → Prop} (hgd : o.guard = none) (x : Operand) (ho : o.op = .makeSlice 29 x x) (n : Nat) (hx : a.eval x = .int .i64 (n : Int)) (hn : n ≤ 2147483647)
    (h : ∀ b w', w.heap.size ≤ b → Owns w' w.heap.size (.slice (some ⟨b, 0, none⟩) n n) (List.replicate n 0) → Below w.heap.size w w' → wpList Try.prog ops Q rest (a.put o.dst (.slice (some ⟨b, 0, none⟩) n n)) w') : wpList Try.prog ops Q (o :: rest) a w := by
  have hm := run_make_row' (P := Try.prog) 29 5 (.int .u8 0) 1 Try.underlying29 Try.info5 rfl .i64 .i64 n (by omega) (by omega) w
  have hr : (execOp a.eval (mkOp (.makeSlice 29 x x) o.type)).run Try.prog w = .ok (.value (.slice (some ⟨w.heap.size, 0, none⟩) n n)) (w.alloc (.cells (madeCells #[.int .u8 0] n) 5)) := by
    simp [execOp, mkOp, hx, hm, Result.andThen]
  exact wpList_plain hgd fun _ hK => by
    unfold Oper.wp
    rw [exec_mkOp, ho, hr]
    exact hK _ _ (h _ _ (Nat.le_refl _) (made_own w n (by unfold maxLen; omega)) ((Below.refl _ _).alloc (Nat.le_refl _) _))
set_option maxHeartbeats 4000000 in
set_option maxRecDepth 20000 in
theorem block_any (w : World) (n : Nat) (hn : n ≤ 300) : Calls Try.prog 21 #[.int .i64 (n : Int), .int .i64 1] w fun e w' => ∃ v l, e = .returned v ∧ Bs w' v l ∧ l.length = n ∧ Below w.heap.size w w' := by
  have HN := Lib.hid hn
  have hmx : Hid ((n : Int) = if (n : Int) < 0 then 0 else (n : Int)) := Lib.hid (by rw [if_neg (by omega)])
  have Bw0 := Below.refl w.heap.size w
  have HGS : Hid (∀ wq : World, Below w.heap.size w wq → w.heap.size ≤ wq.heap.size) := Lib.hid fun wq h => h.size
  clear hn
  go_enter Try.func21, Try.ntmps21
  go_wp2_with (first
    | (have hgo := Bw0; clear hgo
       refine wmax rfl (.tmp 7) (.const (.int .i64 0)) rfl rfl rfl hmx.out ?_)
    | (have hgo := Bw0; clear hgo
       refine wmakeO rfl (.tmp 8) rfl n rfl (by have := HN.out; omega) ?_
       intro bo w1 lo o_v kk
       have LO := Lib.hid lo
       have Bw1 := kk
       clear Bw0 kk lo))
  go_loopw [6] (fun iv wr => ∃ (i : Nat) (l : List UInt8), i ≤ n ∧ iv = .int .i64 (i : Int) ∧ l.length = n ∧ Owns wr w.heap.size (.slice (some ⟨bo, 0, none⟩) n n) l ∧ Below w.heap.size w wr) (fun iv _ => n - (intOf iv).toNat)
  case atStart => exact ⟨0, List.replicate n 0, Nat.zero_le _, rfl, List.length_replicate, o_v, Bw1⟩
  case round =>
    clear o_v Bw1
    obtain ⟨i, l, hi, rfl, hl, o_v, Bw1⟩ := hrel
    by_cases hlt : i < n
    · have hiI : 0 ≤ (i : Int) ∧ (i : Int) < (n : Int) := by omega
      have HI := Lib.hid hlt
      have HL := Lib.hid hl
      obtain ⟨S, hS⟩ := nat_var (i * i)
      have hSle : S ≤ 90000 := by rw [hS]; exact Nat.le_trans (Nat.mul_le_mul (show i ≤ 300 by have := HN.out; omega) (show i ≤ 300 by have := HN.out; omega)) (by decide)
      have e1 : IntKind.i64.wrap ((i : Int) * (i : Int)) = (S : Int) := by rw [show (i : Int) * (i : Int) = (S : Int) by rw [hS, Int.natCast_mul]]; rw [IntWalk.i64_in _ (by omega)]
      obtain ⟨S7, hS7⟩ := nat_var (S + 7)
      obtain ⟨S8, hS8⟩ := nat_var (S7 + 1)
      have e2 : IntKind.i64.wrap ((S : Int) + 7) = (S7 : Int) := by rw [IntWalk.i64_in _ (by omega)]; omega
      have e3 : IntKind.i64.wrap ((S7 : Int) + 1) = (S8 : Int) := by rw [IntWalk.i64_in _ (by omega)]; omega
      obtain ⟨r, hr⟩ := nat_var (S8 % 251)
      have HR : Hid ((S8 : Int) % 251 = (r : Int) ∧ r < 256 ∧ S8 ≤ 1000000) := Lib.hid (by omega)
      have e4 : IntKind.u8.wrap (r : Int) = (r : Int) := by rw [IntKind.wrap_u8]; omega
      obtain ⟨i1, hi1⟩ := nat_var (i + 1)
      have e5 : IntKind.i64.wrap ((i : Int) + 1) = (i1 : Int) := by rw [IntWalk.i64_in _ (by have := HN.out; omega)]; omega
      have HI1 := Lib.hid hi1
      clear hi hlt hS hSle hS7 hS8 hr hi1 hl
      go_wp2_with (first
        | (have hgo := e4; clear hgo
           go_at_call 44
           refine (round_any _ 251 _ (by omega) (by have := HR.out; omega) (by decide) (by decide)).mono ?_
           rintro e w2 ⟨rfl, h2⟩
           obtain rfl := h2.symm
           rw [HR.out.1])
        | (have hgo := Bw1; clear hgo
           refine wpList_store_byte rfl (.tmp 27) (.tmp 26) rfl i r o_v HL.out.symm (Nat.le_refl _) (by rw [HL.out]; exact HI.out) rfl rfl HR.out.2.1 ?_
           intro w3 o3 g3
           have Bw3 := Bw1.grown g3 (HGS.out _ Bw1) (fun k hk => by cases hk; exact LO.out)
           clear Bw1 g3 o_v))
      go_roundw
      case rel => exact ⟨i + 1, _, HI.out, by rw [HI1.out], by rw [List.length_set]; exact HL.out, o3, Bw3⟩
      case measure => (have := HI1.out; have := HI.out; simp [intOf]; try omega)
    · obtain rfl : i = n := by omega
      have hiI : ¬ (i : Int) < (i : Int) := by omega
      clear hlt hi
      go_wp2
      go_ret
      exact ⟨_, rfl, l, o_v.bs, hl, Bw1⟩
set_option maxHeartbeats 4000000 in
set_option maxRecDepth 20000 in
theorem lim1_ok (O : Nat → Prop) (w : World) (y mb m : Nat) (b : List UInt8) (hR : rdAt O w y (bytL b)) (hm : b.length ≤ m) (hm2 : m ≤ 1000000) (r_m : w.rowIs mb 3 1 (fun _ => .int .i64 (m : Int))) : Calls Try.prog 23 #[.pointer (some ⟨y, 0, none⟩), .pointer (some ⟨mb, 0, none⟩)] w fun e w' => e = .returned (.tuple #[]) ∧ True ∧ ∃ O', rdAt O' w' y [] ∧ Sam (fun x => O x ∨ False) w w' ∧ ∀ x, O' x → O x ∨ w.heap.size ≤ x := by
  have Bw0 := Below.refl w.heap.size w
  have HHR := Lib.hid hR
  have HHM := Lib.hid hm
  have HHM2 := Lib.hid hm2
  clear hR hm hm2
  go_enter Try.func23, Try.ntmps23
  go_wp2_with (first
    | (refine wpList_loadG 3 (.tmp 1) rfl rfl (.int .i64 (m : Int)) r_m rfl (by omega) rfl (by kernel_rfl) ?_)
    | (have hgo := Bw0; clear hgo
       go_at_call 24
       refine (rdBytes_any O _ y m b [] (by simpa using HHR.out) HHM.out HHM2.out).mono ?_
       rintro e w2 ⟨v2, rfl, o2, hN⟩
       clear Bw0))
  simp only [bodyPost]
  obtain ⟨O2, g1, g2, g3⟩ := hN
  exact ⟨trivial, .tuple #[], by simp [results, Try.results23], rfl, trivial, O2, g1, g2.mono fun b _ h => .inl h, g3⟩
set_option maxHeartbeats 4000000 in
set_option maxRecDepth 20000 in
theorem lim1_big (O : Nat → Prop) (w : World) (y mb m : Nat) (n : Nat) (l : List UInt8) (hR : rdAt O w y (numL7 n ++ l)) (hn : n < 18446744073709551616 ∧ m ≤ 1000000 ∧ m < n) (r_m : w.rowIs mb 3 1 (fun _ => .int .i64 (m : Int))) : Calls Try.prog 23 #[.pointer (some ⟨y, 0, none⟩), .pointer (some ⟨mb, 0, none⟩)] w fun e w' => e = .panicked [{ v := .iface 37 (.int .i64 11), recovered := false }] ∧ True ∧ Sam (fun x => O x ∨ False) w w' := by
  have Bw0 := Below.refl w.heap.size w
  have HHR := Lib.hid hR
  have HHN := Lib.hid hn
  clear hR hn
  go_enter Try.func23, Try.ntmps23
  go_wp2_with (first
    | (refine wpList_loadG 3 (.tmp 1) rfl rfl (.int .i64 (m : Int)) r_m rfl (by omega) rfl (by kernel_rfl) ?_)
    | (have hgo := Bw0; clear hgo
       go_at_call 24
       refine (rdBytes_big O _ y n m l HHR.out HHN.out).mono ?_
       rintro e w2 ⟨rfl, kk⟩
       clear Bw0))
  simp only [bodyPost]
  exact ⟨by first | trivial | rfl, by first | trivial | rfl, trivial, Sam.of_below kk⟩
set_option maxHeartbeats 4000000 in
set_option maxRecDepth 20000 in
theorem lim1_short (O : Nat → Prop) (w : World) (y mb m : Nat) (n : Nat) (l : List UInt8) (hR : rdAt O w y (numL7 n ++ l)) (hn : n < 18446744073709551616 ∧ m ≤ 1000000 ∧ n ≤ m ∧ l.length < n) (r_m : w.rowIs mb 3 1 (fun _ => .int .i64 (m : Int))) : Calls Try.prog 23 #[.pointer (some ⟨y, 0, none⟩), .pointer (some ⟨mb, 0, none⟩)] w fun e w' => e = .panicked [{ v := .iface 37 (.int .i64 2), recovered := false }] ∧ True ∧ Sam (fun x => O x ∨ False) w w' := by
  have Bw0 := Below.refl w.heap.size w
  have HHR := Lib.hid hR
  have HHN := Lib.hid hn
  clear hR hn
  go_enter Try.func23, Try.ntmps23
  go_wp2_with (first
    | (refine wpList_loadG 3 (.tmp 1) rfl rfl (.int .i64 (m : Int)) r_m rfl (by omega) rfl (by kernel_rfl) ?_)
    | (have hgo := Bw0; clear hgo
       go_at_call 24
       refine (rdBytes_short O _ y n m l HHR.out HHN.out).mono ?_
       rintro e w2 ⟨rfl, kk⟩
       clear Bw0))
  simp only [bodyPost]
  exact ⟨by first | trivial | rfl, by first | trivial | rfl, trivial, Sam.of_below kk⟩
set_option maxHeartbeats 4000000 in
set_option maxRecDepth 20000 in
theorem lim2_ok (O : Nat → Prop) (w : World) (y mb m : Nat) (L : List (List UInt8)) (hR : rdAt O w y (numL7 L.length ++ (L.map bytL).flatten)) (hm : L.length ≤ m) (hm2 : m ≤ 1000000) (hL : ∀ b ∈ L, b.length ≤ 0) (r_m : w.rowIs mb 3 1 (fun _ => .int .i64 (m : Int))) : Calls Try.prog 25 #[.pointer (some ⟨y, 0, none⟩), .pointer (some ⟨mb, 0, none⟩)] w fun e w' => e = .returned (.tuple #[]) ∧ True ∧ ∃ O', rdAt O' w' y [] ∧ Sam (fun x => O x ∨ False) w w' ∧ ∀ x, O' x → O x ∨ w.heap.size ≤ x := by
  have Bw0 := Below.refl w.heap.size w
  have HHR := Lib.hid hR
  have HHM := Lib.hid hm
  have HHM2 := Lib.hid hm2
  have HHL := Lib.hid hL
  clear hR hm hm2 hL
  go_enter Try.func25, Try.ntmps25
  go_wp2_with (first
    | (refine wpList_loadG 3 (.tmp 1) rfl rfl (.int .i64 (m : Int)) r_m rfl (by omega) rfl (by kernel_rfl) ?_)
    | (have hgo := Bw0; clear hgo
       go_at_call 26
       refine (rdList_any O _ y m 0 L [] (by simpa using HHR.out) HHM.out HHM2.out HHL.out (by decide)).mono ?_
       rintro e w2 ⟨v2, rfl, f2, hN⟩
       clear Bw0))
  simp only [bodyPost]
  obtain ⟨O2, g1, g2, g3⟩ := hN
  exact ⟨trivial, .tuple #[], by simp [results, Try.results25], rfl, trivial, O2, g1, g2.mono fun b _ h => .inl h, g3⟩
set_option maxHeartbeats 4000000 in
set_option maxRecDepth 20000 in
theorem lim2_big (O : Nat → Prop) (w : World) (y mb m : Nat) (n : Nat) (l : List UInt8) (hR : rdAt O w y (numL7 n ++ l)) (hn : n < 18446744073709551616 ∧ m ≤ 1000000 ∧ m < n) (r_m : w.rowIs mb 3 1 (fun _ => .int .i64 (m : Int))) : Calls Try.prog 25 #[.pointer (some ⟨y, 0, none⟩), .pointer (some ⟨mb, 0, none⟩)] w fun e w' => e = .panicked [{ v := .iface 37 (.int .i64 11), recovered := false }] ∧ True ∧ Sam (fun x => O x ∨ False) w w' := by
  have Bw0 := Below.refl w.heap.size w
  have HHR := Lib.hid hR
  have HHN := Lib.hid hn
  clear hR hn
  go_enter Try.func25, Try.ntmps25
  go_wp2_with (first
    | (refine wpList_loadG 3 (.tmp 1) rfl rfl (.int .i64 (m : Int)) r_m rfl (by omega) rfl (by kernel_rfl) ?_)
    | (have hgo := Bw0; clear hgo
       go_at_call 26
       refine (rdList_big O _ y m 0 n l HHR.out HHN.out).mono ?_
       rintro e w2 ⟨rfl, kk⟩
       clear Bw0))
  simp only [bodyPost]
  exact ⟨by first | trivial | rfl, by first | trivial | rfl, trivial, Sam.of_below kk⟩
set_option maxHeartbeats 4000000 in
set_option maxRecDepth 20000 in
theorem lim2_short (O : Nat → Prop) (w : World) (y mb m : Nat) (L : List (List UInt8)) (hR : rdAt O w y (numL7 (L.length + 1) ++ (L.map bytL).flatten)) (hm : L.length + 1 ≤ m) (hm2 : m ≤ 1000000) (hL : ∀ b ∈ L, b.length ≤ 0) (r_m : w.rowIs mb 3 1 (fun _ => .int .i64 (m : Int))) : Calls Try.prog 25 #[.pointer (some ⟨y, 0, none⟩), .pointer (some ⟨mb, 0, none⟩)] w fun e w' => e = .panicked [{ v := .iface 37 (.int .i64 2), recovered := false }] ∧ True ∧ Sam (fun x => O x ∨ False) w w' := by
  have Bw0 := Below.refl w.heap.size w
  have HHR := Lib.hid hR
  have HHM := Lib.hid hm
  have HHM2 := Lib.hid hm2
  have HHL := Lib.hid hL
  clear hR hm hm2 hL
  go_enter Try.func25, Try.ntmps25
  go_wp2_with (first
    | (refine wpList_loadG 3 (.tmp 1) rfl rfl (.int .i64 (m : Int)) r_m rfl (by omega) rfl (by kernel_rfl) ?_)
    | (have hgo := Bw0; clear hgo
       go_at_call 26
       refine (rdList_short O _ y m 0 L (by simpa using HHR.out) HHM.out HHM2.out HHL.out (by decide)).mono ?_
       rintro e w2 ⟨rfl, kk⟩
       clear Bw0))
  simp only [bodyPost]
  exact ⟨by first | trivial | rfl, by first | trivial | rfl, trivial, Sam.of_below kk⟩
end Go.Proofs.Ytllppgfajbbbaaa
