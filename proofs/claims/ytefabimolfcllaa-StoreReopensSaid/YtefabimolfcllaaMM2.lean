/- Texts joined: what they are for stands ahead of each. -/
import Derived.Test.YtefabimolfcllaaMM1
import Derived.Lib.LazyBuf
import Derived.Shelf.SlIterI.Nil
import Derived.Shelf.SortM.Plain
import Derived.Shelf.SortM.SortNone
import Derived.RangeFuncBound
import Derived.Shelf.Abstract
import Derived.Shelf.RegionOpen
import Derived.WalkKit
import Derived.TacticsInMore
import Derived.LoopNIn
import Derived.LoopIn
set_option linter.unusedSimpArgs false
set_option linter.unusedVariables false

/- The program's device: where it lies; Len, Off, Ops, has, begin, Cut, fresh, New. -/
namespace Go.Proofs.Ytefabimolfcllaa
open Go.RowKit Go.Deep
open Go.Maps (Keyed has IsMap)
set_option linter.unusedSimpArgs false
set_option linter.unusedVariables false

/-- The cells of the power stand for the state's. -/
def lrel (S : DS) (rc : Bool) (rl : Int) : Prop := (S.off = true → rc = true ∧ rl = 0) ∧ (S.off = false → rc = S.cut ∧ (S.cut = true → rl = if S.left < 0 then 0 else S.left))
/-- What lies in memory of a device: its blocks, and what is pending. -/
structure BkM (y g b : Nat) (vg : Value) (pv : Nat → Value) (pb : Nat → Nat) (w : World) (N n : Nat) (good : Nat → List UInt8) (pend : Nat → List (List UInt8)) : Prop where
  n1 : 1 ≤ n
  nn : n ≤ 65536
  lg : Ims w vg g n good
  mp : MpAt w b N n pv
  pd : ∀ k, k < n → (pend k = [] ∧ pv k = nilV) ∨ (pend k ≠ [] ∧ Ims w (pv k) (pb k) (pend k).length fun i => (pend k).getD i [])
  yg : y ≠ g
  yb : y ≠ b
  gb : g ≠ b
  py : ∀ k, k < n → pend k ≠ [] → pb k ≠ y ∧ pb k ≠ g ∧ pb k ≠ b
  pp : ∀ j k, j < n → k < n → pend j ≠ [] → pend k ≠ [] → j ≠ k → pb j ≠ pb k
def ownB (y g b n : Nat) (pb : Nat → Nat) (pend : Nat → List (List UInt8)) : Nat → Prop := fun x => x = y ∨ x = g ∨ x = b ∨ ∃ k, k < n ∧ pend k ≠ [] ∧ x = pb k
/-- A device lies at y. -/
def BkAtS (d : Nat) (T D : Nat → Prop) (w : World) (y : Nat) (S : DS) : Prop :=
  ∃ g b c pv pb rc rl N, w.rowIs y 62 6 (devF (.slice (some ⟨g, 0, none⟩) S.n c) (.map (some b)) S.ops rc rl S.off) ∧ BkM y g b (.slice (some ⟨g, 0, none⟩) S.n c) pv pb w N S.n S.good S.pend ∧ N + d ≤ S.ops ∧ lrel S rc rl ∧ (∀ x, T x ↔ ownB y g b S.n pb S.pend x) ∧ ∀ x, D x ↔ ownB y g b S.n pb S.pend x
abbrev BkAt (T D : Nat → Prop) (w : World) (y : Nat) (S : DS) : Prop := BkAtS 0 T D w y S
theorem BkAtS.weak {d : Nat} {T D : Nat → Prop} {w : World} {y : Nat} {S : DS} (h : BkAtS d T D w y S) : BkAt T D w y S := by
  obtain ⟨g, b, c, pv, pb, rc, rl, N, h1, h2, h3, h4⟩ := h
  exact ⟨g, b, c, pv, pb, rc, rl, N, h1, h2, by omega, h4⟩
theorem BkM.sam {F : Nat → Prop} {y g b : Nat} {vg : Value} {pv : Nat → Value} {pb : Nat → Nat} {w w' : World} {N n : Nat} {good : Nat → List UInt8} {pend : Nat → List (List UInt8)} (h : BkM y g b vg pv pb w N n good pend) (k : Sam F w w') (hF : ∀ x, F x → x = y ∨ ¬ ownB y g b n pb pend x) : BkM y g b vg pv pb w' N n good pend := by
  have no : ∀ x, x ≠ y → ownB y g b n pb pend x → ¬ F x := fun x hx ho hf => (hF x hf).elim hx fun hn => hn ho
  refine ⟨h.n1, h.nn, h.lg.sam k (no _ (Ne.symm h.yg) (.inr (.inl rfl))), h.mp.sam k (no _ (Ne.symm h.yb) (.inr (.inr (.inl rfl)))), fun i hi => (h.pd i hi).imp id fun ⟨q1, q2⟩ => ⟨q1, q2.sam k (no _ (h.py i hi q1).1 (.inr (.inr (.inr ⟨i, hi, q1, rfl⟩))))⟩, h.yg, h.yb, h.gb, h.py, h.pp⟩
theorem BkM.bel {y g b : Nat} {vg : Value} {pv : Nat → Value} {pb : Nat → Nat} {w w' : World} {N n : Nat} {good : Nat → List UInt8} {pend : Nat → List (List UInt8)} (h : BkM y g b vg pv pb w N n good pend) (k : Below w.heap.size w w') : BkM y g b vg pv pb w' N n good pend := h.sam (Sam.of_below (F := fun _ => False) k) fun _ x => x.elim
theorem BkM.drew {y g b : Nat} {vg : Value} {pv : Nat → Value} {pb : Nat → Nat} {w : World} {N n : Nat} {good : Nat → List UInt8} {pend : Nat → List (List UInt8)} (h : BkM y g b vg pv pb w N n good pend) : BkM y g b vg pv pb w.drew N n good pend := ⟨h.n1, h.nn, h.lg, h.mp, h.pd, h.yg, h.yb, h.gb, h.py, h.pp⟩
theorem BkM.lt {y g b : Nat} {vg : Value} {pv : Nat → Value} {pb : Nat → Nat} {w : World} {N n : Nat} {good : Nat → List UInt8} {pend : Nat → List (List UInt8)} (h : BkM y g b vg pv pb w N n good pend) (hy : y < w.heap.size) : ∀ x, ownB y g b n pb pend x → x < w.heap.size := by
  rintro x (rfl | rfl | rfl | ⟨k, hk, hp, rfl⟩)
  · exact hy
  · exact h.lg.lt
  · exact h.mp.lt
  · rcases h.pd k hk with ⟨q, _⟩ | ⟨_, q⟩
    · exact absurd q hp
    · exact q.lt
theorem lrel_op {S : DS} {rc : Bool} {rl : Int} (h : lrel S rc rl) : opOk S = !(rc && decide (rl = 0)) ∧ (opD S).off = (if (rc && decide (rl = 0)) = true then true else S.off) ∧ lrel (opD S) rc (if (rc && decide (rl = 0)) = true then rl else if rc = true then rl - 1 else rl) := by
  obtain ⟨n, good, pend, ops, cut, left, off⟩ := S
  obtain ⟨h1, h2⟩ := h
  simp only at h1 h2
  unfold opOk opD lrel
  cases off with
  | true =>
    obtain ⟨rfl, rfl⟩ := h1 rfl
    simp
  | false =>
    obtain ⟨rfl, h3⟩ := h2 rfl
    cases rc with
    | false => simp
    | true =>
      have h4 := h3 rfl
      by_cases hl : left < 1
      · have h0 : rl = 0 := by rw [h4]; split <;> omega
        subst h0
        simp [hl]
      · have h0 : rl = left := by rw [h4]; split <;> omega
        subst h0
        have h5 : ¬ rl = 0 := by omega
        have h6 : ¬ rl - 1 < 0 := by omega
        simp [hl, h5, h6]
set_option maxHeartbeats 4000000 in
set_option maxRecDepth 20000 in
theorem len_any (y g b n c : Nat) (ops : Int) (rc : Bool) (rl : Int) (off : Bool) (w : World) (r_y : w.rowIs y 62 6 (devF (.slice (some ⟨g, 0, none⟩) n c) (.map (some b)) ops rc rl off)) : Calls Try.prog 24 #[.pointer (some ⟨y, 0, none⟩)] w fun e w' => e = .returned (.int .i64 (n : Int)) ∧ w' = w := by
  go_enter Try.func24, Try.ntmps24
  go_wp2_with (first
    | (refine wpList_loadG 56 (.tmp 7) rfl rfl (.slice (some ⟨g, 0, none⟩) n c) r_y rfl (by omega) rfl (by kernel_rfl) ?_))
  go_ret
  exact ⟨rfl, rfl⟩
theorem lenN_any (w : World) : Calls Try.prog 24 #[.pointer none] w fun e w' => e = .returned (.int .i64 0) ∧ w' = w := by
  go_enter Try.func24, Try.ntmps24
  go_wp2
  go_ret
  exact ⟨rfl, rfl⟩
set_option maxHeartbeats 4000000 in
set_option maxRecDepth 20000 in
theorem off_any (y g b n c : Nat) (ops : Int) (rc : Bool) (rl : Int) (off : Bool) (w : World) (r_y : w.rowIs y 62 6 (devF (.slice (some ⟨g, 0, none⟩) n c) (.map (some b)) ops rc rl off)) (h1 : 1 ≤ n) : Calls Try.prog 34 #[.pointer (some ⟨y, 0, none⟩)] w fun e w' => e = .returned (.bool off) ∧ w' = w := by
  have e1 : ((n : Int) == 0) = false := by simp; omega
  have HL := Lib.hid h1
  clear h1
  go_enter Try.func34, Try.ntmps34
  go_wp2_with (first
    | (go_at_call 24
       refine (len_any y g b n c ops rc rl off _ r_y).mono ?_
       rintro e w1 ⟨rfl, rfl⟩)
    | (refine wpList_loadG 4 (.tmp 9) rfl rfl (.bool off) r_y rfl (by omega) rfl (by kernel_rfl) ?_))
  go_ret
  exact ⟨rfl, rfl⟩
theorem offN_any (w : World) : Calls Try.prog 34 #[.pointer none] w fun e w' => e = .returned (.bool true) ∧ w' = w := by
  go_enter Try.func34, Try.ntmps34
  go_wp2_with (first
    | (go_at_call 24
       refine (lenN_any _).mono ?_
       rintro e w1 ⟨rfl, rfl⟩))
  go_ret
  exact ⟨rfl, rfl⟩
set_option maxHeartbeats 4000000 in
set_option maxRecDepth 20000 in
theorem has_any (y g b n c : Nat) (ops : Int) (rc : Bool) (rl : Int) (off : Bool) (w : World) (r_y : w.rowIs y 62 6 (devF (.slice (some ⟨g, 0, none⟩) n c) (.map (some b)) ops rc rl off)) (k : Int) : Calls Try.prog 54 #[.pointer (some ⟨y, 0, none⟩), .int .i64 k] w fun e w' => e = .returned (.bool (decide (0 ≤ k) && decide (k < (n : Int)))) ∧ w' = w := by
  by_cases h0 : 0 ≤ k
  · have e1 : (0 ≤ k) = True := eq_true h0
    clear h0
    go_enter Try.func54, Try.ntmps54
    go_wp2_with (first
      | (go_at_call 24
         refine (len_any y g b n c ops rc rl off _ r_y).mono ?_
         rintro e w1 ⟨rfl, rfl⟩))
    go_ret
    exact ⟨by simp [e1], rfl⟩
  · have e1 : (0 ≤ k) = False := eq_false h0
    clear h0
    go_enter Try.func54, Try.ntmps54
    go_wp2
    go_ret
    exact ⟨by simp [e1], rfl⟩
theorem hasN_any (k : Int) (w : World) : Calls Try.prog 54 #[.pointer none, .int .i64 k] w fun e w' => e = .returned (.bool false) ∧ w' = w := by
  by_cases h0 : 0 ≤ k
  · have e1 : (0 ≤ k) = True := eq_true h0
    have e2 : (k < 0) = False := eq_false (by omega)
    clear h0
    go_enter Try.func54, Try.ntmps54
    go_wp2_with (first
      | (go_at_call 24
         refine (lenN_any _).mono ?_
         rintro e w1 ⟨rfl, rfl⟩))
    go_ret
    exact ⟨rfl, rfl⟩
  · have e1 : (0 ≤ k) = False := eq_false h0
    clear h0
    go_enter Try.func54, Try.ntmps54
    go_wp2
    go_ret
    exact ⟨rfl, rfl⟩
set_option maxHeartbeats 4000000 in
set_option maxRecDepth 20000 in
theorem begin_any (y g b n c : Nat) (ops : Int) (rc : Bool) (rl : Int) (off : Bool) (w : World) (r_y : w.rowIs y 62 6 (devF (.slice (some ⟨g, 0, none⟩) n c) (.map (some b)) ops rc rl off)) (h1 : 1 ≤ n) (ho : 0 ≤ ops ∧ ops < 1000000000) (hl : rc = true → 0 ≤ rl ∧ rl ≤ 9223372036854775807) : Calls Try.prog 44 #[.pointer (some ⟨y, 0, none⟩)] w fun e w' => e = .returned (.int .i64 (if (rc && decide (rl = 0)) = true then 10 else 0)) ∧ w'.rowIs y 62 6 (devF (.slice (some ⟨g, 0, none⟩) n c) (.map (some b)) (ops + 1) rc (if (rc && decide (rl = 0)) = true then rl else if rc = true then rl - 1 else rl) (if (rc && decide (rl = 0)) = true then true else off)) ∧ Sam (· = y) w w' := by
  have e1 : ((n : Int) == 0) = false := by simp; omega
  obtain ⟨o1, ho1⟩ : ∃ o1, o1 = ops + 1 := ⟨_, rfl⟩
  have hw1 : IntKind.i64.wrap (ops + 1) = o1 := by rw [IntWalk.i64_in _ (by omega), ho1]
  have H1 := Lib.hid ho
  rw [← ho1]
  clear ho ho1 h1
  cases rc with
  | false =>
    simp only [Bool.false_and, Bool.false_eq_true, if_false]
    have HST1 := Lib.hid True.intro
    clear hl
    go_enter Try.func44, Try.ntmps44
    go_wp2_with (first
      | (go_at_call 24
         refine (len_any y g b n c ops false rl off _ r_y).mono ?_
         rintro e w1 ⟨rfl, rfl⟩)
      | (refine wpList_loadG 3 (.tmp 8) rfl rfl (.int .i64 ops) r_y rfl (by omega) rfl (by kernel_rfl) ?_)
      | (have hgo := HST1; clear hgo
         refine wpList_storeG 3 (.tmp 12) (.tmp 10) rfl rfl (devF (.slice (some ⟨g, 0, none⟩) n c) (.map (some b)) o1 false rl off) r_y rfl rfl (by kernel_rfl) rfl rfl (by omega) (six rfl rfl rfl rfl rfl rfl) ?_
         intro w2 q_n s_1
         replace r_y := q_n
         clear HST1)
      | (refine wpList_loadG 4 (.tmp 15) rfl rfl (.bool false) r_y rfl (by omega) rfl (by kernel_rfl) ?_)
      | (refine wpList_loadG 4 (.tmp 29) rfl rfl (.bool false) r_y rfl (by omega) rfl (by kernel_rfl) ?_))
    go_ret
    exact ⟨rfl, r_y, s_1⟩
  | true =>
    by_cases h0 : rl = 0
    · subst h0
      simp only [Bool.true_and, decide_true, if_true]
      have HST1 := Lib.hid True.intro
      have HST2 := Lib.hid True.intro
      clear hl
      go_enter Try.func44, Try.ntmps44
      go_wp2_with (first
        | (go_at_call 24
           refine (len_any y g b n c ops true 0 off _ r_y).mono ?_
           rintro e w1 ⟨rfl, rfl⟩)
        | (refine wpList_loadG 3 (.tmp 8) rfl rfl (.int .i64 ops) r_y rfl (by omega) rfl (by kernel_rfl) ?_)
        | (have hgo := HST1; clear hgo
           refine wpList_storeG 3 (.tmp 12) (.tmp 10) rfl rfl (devF (.slice (some ⟨g, 0, none⟩) n c) (.map (some b)) o1 true 0 off) r_y rfl rfl (by kernel_rfl) rfl rfl (by omega) (six rfl rfl rfl rfl rfl rfl) ?_
           intro w2 q_n s_1
           replace r_y := q_n
           clear HST1)
        | (refine wpList_loadG 4 (.tmp 15) rfl rfl (.bool true) r_y rfl (by omega) rfl (by kernel_rfl) ?_)
        | (refine wpList_loadG 3 (.tmp 20) rfl rfl (.int .i64 0) r_y rfl (by omega) rfl (by kernel_rfl) ?_)
        | (have hgo := HST2; clear hgo
           refine wpList_storeG 4 (.tmp 26) (.const (.bool true)) rfl rfl (devF (.slice (some ⟨g, 0, none⟩) n c) (.map (some b)) o1 true 0 true) r_y rfl rfl (by kernel_rfl) rfl rfl (by omega) (six rfl rfl rfl rfl rfl rfl) ?_
           intro w3 q_n s_2
           replace r_y := q_n
           clear HST2))
      go_ret
      exact ⟨rfl, r_y, s_1.trans s_2⟩
    · have e2 : (rl == 0) = false := by simp [h0]
      have hd : decide (rl = 0) = false := by simp [h0]
      simp only [Bool.true_and, hd, Bool.false_eq_true, if_false, if_true]
      obtain ⟨r1, hr1⟩ : ∃ r1, r1 = rl - 1 := ⟨_, rfl⟩
      have hb := hl rfl
      have hw2 : IntKind.i64.wrap (rl - 1) = r1 := by rw [IntWalk.i64_in _ (by omega), hr1]
      have HST1 := Lib.hid True.intro
      have HST2 := Lib.hid True.intro
      rw [← hr1]
      clear hl hb hr1 hd h0
      go_enter Try.func44, Try.ntmps44
      go_wp2_with (first
        | (go_at_call 24
           refine (len_any y g b n c ops true rl off _ r_y).mono ?_
           rintro e w1 ⟨rfl, rfl⟩)
        | (refine wpList_loadG 3 (.tmp 8) rfl rfl (.int .i64 ops) r_y rfl (by omega) rfl (by kernel_rfl) ?_)
        | (have hgo := HST1; clear hgo
           refine wpList_storeG 3 (.tmp 12) (.tmp 10) rfl rfl (devF (.slice (some ⟨g, 0, none⟩) n c) (.map (some b)) o1 true rl off) r_y rfl rfl (by kernel_rfl) rfl rfl (by omega) (six rfl rfl rfl rfl rfl rfl) ?_
           intro w2 q_n s_1
           replace r_y := q_n
           clear HST1)
        | (refine wpList_loadG 4 (.tmp 15) rfl rfl (.bool true) r_y rfl (by omega) rfl (by kernel_rfl) ?_)
        | (refine wpList_loadG 3 (.tmp 20) rfl rfl (.int .i64 rl) r_y rfl (by omega) rfl (by kernel_rfl) ?_)
        | (refine wpList_loadG 4 (.tmp 29) rfl rfl (.bool true) r_y rfl (by omega) rfl (by kernel_rfl) ?_)
        | (refine wpList_loadG 3 (.tmp 33) rfl rfl (.int .i64 rl) r_y rfl (by omega) rfl (by kernel_rfl) ?_)
        | (have hgo := HST2; clear hgo
           refine wpList_storeG 3 (.tmp 37) (.tmp 35) rfl rfl (devF (.slice (some ⟨g, 0, none⟩) n c) (.map (some b)) o1 true r1 off) r_y rfl rfl (by kernel_rfl) rfl rfl (by omega) (six rfl rfl rfl rfl rfl rfl) ?_
           intro w3 q_n s_2
           replace r_y := q_n
           clear HST2))
      go_ret
      exact ⟨rfl, r_y, s_1.trans s_2⟩
set_option maxHeartbeats 4000000 in
set_option maxRecDepth 20000 in
theorem cut_off (y g b n c : Nat) (ops : Int) (rc : Bool) (rl : Int) (off : Bool) (w : World) (r_y : w.rowIs y 62 6 (devF (.slice (some ⟨g, 0, none⟩) n c) (.map (some b)) ops rc rl off)) (h1 : 1 ≤ n) (ho : off = true) (x : Int) : Calls Try.prog 19 #[.pointer (some ⟨y, 0, none⟩), .int .i64 x] w fun e w' => e = .returned (.tuple #[]) ∧ w' = w := by
  subst ho
  go_enter Try.func19, Try.ntmps19
  go_wp2_with (first
    | (go_at_call 34
       refine (off_any y g b n c ops rc rl true _ r_y h1).mono ?_
       rintro e w1 ⟨rfl, rfl⟩))
  go_end0
  exact ⟨rfl, rfl⟩
set_option maxHeartbeats 4000000 in
set_option maxRecDepth 20000 in
theorem cut_on (y g b n c : Nat) (ops : Int) (rc : Bool) (rl : Int) (off : Bool) (w : World) (r_y : w.rowIs y 62 6 (devF (.slice (some ⟨g, 0, none⟩) n c) (.map (some b)) ops rc rl off)) (h1 : 1 ≤ n) (ho : off = false) (x : Int) : Calls Try.prog 19 #[.pointer (some ⟨y, 0, none⟩), .int .i64 x] w fun e w' => e = .returned (.tuple #[]) ∧ w'.rowIs y 62 6 (devF (.slice (some ⟨g, 0, none⟩) n c) (.map (some b)) ops true (if x < 0 then 0 else x) false) ∧ Sam (· = y) w w' := by
  subst ho
  have HST1 := Lib.hid True.intro
  have HST2 := Lib.hid True.intro
  obtain ⟨mx, hmx⟩ : ∃ mx, mx = if x < 0 then 0 else x := ⟨_, rfl⟩
  rw [← hmx]
  have HMX := Lib.hid hmx
  have HN := Lib.hid h1
  clear hmx h1
  go_enter Try.func19, Try.ntmps19
  go_wp2_with (first
    | (go_at_call 34
       refine (off_any y g b n c ops rc rl false _ r_y HN.out).mono ?_
       rintro e w1 ⟨rfl, rfl⟩)
    | (refine wmax rfl (.tmp 9) (.const (.int .i64 0)) rfl rfl rfl HMX.out ?_)
    | (have hgo := HST1; clear hgo
       refine wpList_storeG 4 (.tmp 12) (.const (.bool true)) rfl rfl (devF (.slice (some ⟨g, 0, none⟩) n c) (.map (some b)) ops true rl false) r_y rfl rfl (by kernel_rfl) rfl rfl (by omega) (six rfl rfl rfl rfl rfl rfl) ?_
       intro w2 q_n s_1
       replace r_y := q_n
       clear HST1)
    | (have hgo := HST2; clear hgo
       refine wpList_storeG 3 (.tmp 14) (.tmp 10) rfl rfl (devF (.slice (some ⟨g, 0, none⟩) n c) (.map (some b)) ops true mx false) r_y rfl rfl (by kernel_rfl) rfl rfl (by omega) (six rfl rfl rfl rfl rfl rfl) ?_
       intro w3 q_n s_2
       replace r_y := q_n
       clear HST2))
  go_end0
  exact ⟨rfl, r_y, s_1.trans s_2⟩
theorem builtBk (a : Option Addr) (n c m : Nat) : Try.prog.built 62 [(0, .slice a n c), (1, .map (some m))] = some (arrOf 6 (devF (.slice a n c) (.map (some m)) 0 false 0 false)) := by kernel_rfl
theorem wmakeM {ops : Array Oper} {rest : List Oper} {o : Oper} {a : Act} {w : World} {Q : Exit → Act → World → Prop} (hgd : o.guard = none) (x : Option Operand) (hop : o.op = .makeMap 60 x) (hx : ∀ y, x = some y → ∃ i, a.eval y = .int .i64 i) (n : Nat)
    (h : ∀ b w', w.heap.size ≤ b → MpAt w' b 0 n (fun _ => nilV) → Below w.heap.size w w' → wpList Try.prog ops Q rest (a.put o.dst (.map (some b))) w') : wpList Try.prog ops Q (o :: rest) a w := by
  refine wpList_value hgd (.map (some w.heap.size)) (w' := w.alloc (.map #[] 0)) ?_ (h _ _ (Nat.le_refl _) (mp_made w n) ((Below.refl _ _).alloc (Nat.le_refl _) _))
  cases x with
  | none => simp [execOp, hop, run_makeMap, Result.andThen]
  | some y =>
    obtain ⟨i, hi⟩ := hx y rfl
    simp [execOp, hop, Instr.makeMap, hi, run_underlying Try.underlying60 w, asInt, asIntOf, newObj, Result.andThen]
    rfl
theorem wmakeI {ops : Array Oper} {rest : List Oper} {o : Oper} {a : Act} {w : World} {Q : Exit → Act → World → Prop} (hgd : o.guard = none) (x : Operand) (hop : o.op = .makeSlice 56 x x) (n : Nat) (hx : a.eval x = .int .i64 (n : Int)) (h1 : 1 ≤ n) (hn : n ≤ 65536)
    (h : ∀ g w', w.heap.size ≤ g → Ims w' (.slice (some ⟨g, 0, none⟩) n n) g n (fun _ => List.replicate 64 0) → Below w.heap.size w w' → wpList Try.prog ops Q rest (a.put o.dst (.slice (some ⟨g, 0, none⟩) n n)) w') : wpList Try.prog ops Q (o :: rest) a w := by
  obtain ⟨i0, hi, hz0, hz1, hz2⟩ := info_parts infoImg
  obtain ⟨w', hr, q1, q2⟩ := run_make_full (P := Try.prog) w w.heap.size 56 59 i0 _ 64 Try.underlying56 hi hz0 hz1 .i64 .i64 n (by rw [hz2]; omega) (by unfold maxLen; omega) (Nat.le_refl _)
  obtain ⟨g', q3, q4, _⟩ := ims_of_owns (L := fun _ => List.replicate 64 0) q1 (by omega) (fun j hj => by
    have e : (imC (fun _ => List.replicate 64 0) j) = .int .u8 0 := by unfold imC; rw [imF_zero]
    have hlt : j % 64 < 64 := by omega
    rw [e]
    simp [madeCells, Value.cells, arrOf_size, hj, arrOf, hlt])
  obtain rfl : w.heap.size = g' := Option.some.inj q4
  refine wpList_value hgd _ (w' := w') ?_ (h _ _ (Nat.le_refl _) q3 ⟨q2.os, q2.tape, q2.output, q2.size, fun k hk => q2.block k hk (by simp)⟩)
  simp [execOp, hop, hx, hr, Result.andThen]
theorem fresh_any (g n c : Nat) (w : World) (m : Nat) : Calls Try.prog 28 #[.slice (some ⟨g, 0, none⟩) n c] w fun e w' => ∃ y b, e = .returned (.pointer (some ⟨y, 0, none⟩)) ∧ w.heap.size ≤ y ∧ w.heap.size ≤ b ∧ y ≠ b ∧ w'.rowIs y 62 6 (devF (.slice (some ⟨g, 0, none⟩) n c) (.map (some b)) 0 false 0 false) ∧ MpAt w' b 0 m (fun _ => nilV) ∧ Below w.heap.size w w' := by
  have Bw0 := Below.refl w.heap.size w
  have HGS : Hid (∀ wq : World, Below w.heap.size w wq → w.heap.size ≤ wq.heap.size) := Lib.hid fun wq h => h.size
  go_enter Try.func28, Try.ntmps28
  go_wp2_with (first
    | (have hgo := Bw0; clear hgo
       refine wmakeM rfl none rfl (fun _ h => by cases h) m ?_
       intro b w1 lb m_b kk
       have L_b := Lib.hid lb
       have Bw1 := zbt HGS Bw0 kk
       clear Bw0 kk lb)
    | (refine wpList_build_arr rfl 62 #[(0, .tmp 3), (1, .tmp 4)] rfl (arrOf 6 (devF (.slice (some ⟨g, 0, none⟩) n c) (.map (some b)) 0 false 0 false)) ?_ ?_
       · simp only [List.map_toArray, List.map_cons, List.map_nil]; exact builtBk _ _ _ _)
    | (have hgo := Bw1; clear hgo
       refine wpList_box_row rfl 62 (.tmp 5) rfl 6 (devF (.slice (some ⟨g, 0, none⟩) n c) (.map (some b)) 0 false 0 false) rfl ?_
       intro y w2 ly r_y kk
       have N_y := Lib.hid (Nat.ne_of_gt (Nat.lt_of_lt_of_le m_b.lt ly))
       have L_y := Lib.hid (zrl HGS Bw1 ly)
       have HM := Lib.hid (m_b.bel kk)
       have Bw2 := zbt HGS Bw1 kk
       clear Bw1 kk ly m_b))
  go_ret
  exact ⟨y, b, rfl, L_y.out, L_b.out, N_y.out, r_y, HM.out, Bw2⟩
end Go.Proofs.Ytefabimolfcllaa

/- The program's device: behind, Read, Write. -/
namespace Go.Proofs.Ytefabimolfcllaa
open Go.RowKit Go.Deep
open Go.Maps (Keyed has IsMap)
set_option linter.unusedSimpArgs false
set_option linter.unusedVariables false

theorem BkM.look {y g b n N : Nat} {vg : Value} {pv : Nat → Value} {pb : Nat → Nat} {w : World} {good : Nat → List UInt8} {pend : Nat → List (List UInt8)} (h : BkM y g b vg pv pb w N n good pend) (k : Nat) (hk : k < n) : ∃ a c, pv k = .slice a (pend k).length c := by
  rcases h.pd k hk with ⟨q1, q2⟩ | ⟨q1, q2⟩
  · exact ⟨none, 0, by rw [q1, q2]; rfl⟩
  · obtain ⟨c, e, _⟩ := q2.shape
    exact ⟨_, c, e⟩
theorem exec_loadG {w wx : World} {F : Nat → Prop} (ρ : Operand → Value) (ty : TypeId) (x : Operand) (t : TypeId) {b m i : Nat} {t' : TypeId} {f : Nat → Value} (v : Value) (hr : w.rowIs b t' m f) (hs : Sam F w wx) (hF : ¬ F b) (hx : ρ x = .pointer (some ⟨b, i, none⟩)) (hi : i < m) (hv : f i = v)
    (hu : (Try.prog.underlying ty).map (fun d => match d with | .struct _ | .array _ _ => true | _ => false) = some false) : (execOp ρ (mkOp (.load ty x) t)).run Try.prog wx = .ok (.value v) wx := by
  have hc := (Sam.row hr hs hF).cell hi
  rw [hv] at hc
  exact exec_load_cell ρ ty x t hx hu hc
theorem exec_sliceI {w : World} (ρ : Operand → Value) (x : Operand) (t : TypeId) {b : Nat} (hx : ρ x = .pointer (some ⟨b, 0, none⟩)) : (execOp ρ (mkOp (.slice 59 x none none none) t)).run Try.prog w = .ok (.value (.slice (some ⟨b, 0, none⟩) 64 64)) w := by
  have h := run_sliceAll_arr (P := Try.prog) w 59 5 64 b 0 Try.underlying59 (by kernel_rfl) (by decide)
  simp [execOp, mkOp, hx, h, Result.andThen]
theorem bs_img {w : World} {x n : Nat} {l : List UInt8} (hr : w.rowIs x 59 64 (imF l)) (hl : l.length = 64) (hn : n ≤ 64) : Bs w (.slice (some ⟨x, 0, none⟩) n 64) (l.take n) := by
  have e : (l.take n).length = n := by rw [List.length_take, hl]; omega
  refine ⟨some ⟨x, 0, none⟩, 64, by rw [e], by rw [e]; exact hn, by unfold maxLen; omega, (fun h => by cases h), fun q hq i hi => ?_⟩
  cases hq
  rw [e] at hi
  refine ⟨hr.lt, ?_⟩
  rw [Addr.add_lit, Nat.zero_add, hr.cell (by omega)]
  unfold imF
  rw [List.getElem_take, List.getD_eq_getElem?_getD, List.getElem?_eq_getElem (by omega)]
  rfl
set_option maxHeartbeats 4000000 in
set_option maxRecDepth 20000 in
theorem behind_any (y g b n c : Nat) (ops : Int) (rc : Bool) (rl : Int) (off : Bool) (w : World) (r_y : w.rowIs y 62 6 (devF (.slice (some ⟨g, 0, none⟩) n c) (.map (some b)) ops rc rl off)) {N : Nat} {pv : Nat → Value} {pb : Nat → Nat} {good : Nat → List UInt8} {pend : Nat → List (List UInt8)} (hm : BkM y g b (.slice (some ⟨g, 0, none⟩) n c) pv pb w N n good pend) (k j : Nat) (hk : k < n) (hj : j ≤ (pend k).length) (hp : (pend k).length < 1000000000) : Calls Try.prog 45 #[.pointer (some ⟨y, 0, none⟩), .int .i64 (k : Int), .int .i64 (j : Int)] w fun e w' => e = .returned (imV (if j = 0 then good k else (pend k).getD (j - 1) [])) ∧ Below w.heap.size w w' := by
  have Bw0 := Below.refl w.heap.size w
  have HGS : Hid (∀ wq : World, Below w.heap.size w wq → w.heap.size ≤ wq.heap.size) := Lib.hid fun wq h => h.size
  have HK := Lib.hid hk
  have HM := Lib.hid hm
  clear hk hm
  by_cases hj0 : j = 0
  · subst hj0
    rw [if_pos rfl]
    clear hj hp
    go_enter Try.func45, Try.ntmps45
    go_wp2_with (first
      | (have hgo := Bw0; clear hgo
         refine wpList_alloc_row rfl 59 rfl 64 (fun _ => .int .u8 0) zeroImg ?_
         intro x w1 lx r_x kk
         replace r_y := zrb r_y kk
         have HM1 := Lib.hid (HM.out.bel kk)
         have L_x := Lib.hid (zrl HGS Bw0 lx)
         have Bw1 := zbt HGS Bw0 kk
         clear Bw0 kk lx HM)
      | (refine wpList_loadG 56 (.tmp 11) rfl rfl (.slice (some ⟨g, 0, none⟩) n c) r_y rfl (by omega) rfl (by kernel_rfl) ?_)
      | (refine wval rfl (.indexAddr 56 (.tmp 12) (.tmp 13)) rfl _ (exec_ixI _ _ _ _ rfl rfl HK.out) ?_)
      | (refine wval rfl (.load 59 (.tmp 14)) rfl _ (exec_loadI _ _ _ rfl (HM1.out.lg.cell k HK.out)) ?_)
      | (have hgo := Bw1; clear hgo
         refine wpList_store_as rfl 59 (.tmp 6) (.tmp 15) rfl 64 (imF (good k)) isImg r_x rfl rfl (by omega) (fun _ _ => rfl) (fun i hi => putN_whole hi) ?_
         intro w2 q gk
         replace r_x := q
         have Bw2 := zbg HGS Bw1 gk L_x.out
         clear Bw1 gk q r_y))
    exact ret_cell_as _ rfl isImg r_x rfl (by omega) (fun _ _ => rfl) rfl ⟨rfl, Bw2⟩
  · rw [if_neg hj0]
    obtain ⟨j1, hj1⟩ : ∃ j1, j1 = j - 1 := ⟨_, rfl⟩
    rw [← hj1]
    have e1 : ((j : Int) == 0) = false := by simp; omega
    have hw1 : IntKind.i64.wrap ((j : Int) - 1) = (j1 : Int) := by rw [IntWalk.i64_in _ (by omega)]; omega
    have HJ : Hid (j1 < (pend k).length) := Lib.hid (by omega)
    have HQ : Hid (Ims w (pv k) (pb k) (pend k).length fun i => (pend k).getD i []) := Lib.hid ((HM.out.pd k HK.out).elim (fun h => by have := h.1; rw [this] at hj; exact absurd (Nat.le_zero.1 hj) hj0) fun h => h.2)
    obtain ⟨ck, hck, _, _⟩ := HQ.out.shape
    have HC := Lib.hid hck
    clear hj0 hj1 hj hp hck
    go_enter Try.func45, Try.ntmps45
    go_wp2_with (first
      | (have hgo := Bw0; clear hgo
         refine wpList_alloc_row rfl 59 rfl 64 (fun _ => .int .u8 0) zeroImg ?_
         intro x w1 lx r_x kk
         replace r_y := zrb r_y kk
         have HM1 := Lib.hid (HM.out.bel kk)
         have HQ1 := Lib.hid (HQ.out.bel kk)
         have L_x := Lib.hid (zrl HGS Bw0 lx)
         have Bw1 := zbt HGS Bw0 kk
         skip
         clear Bw0 kk lx HM)
      | (refine wpList_loadG 60 (.tmp 18) rfl rfl (.map (some b)) r_y rfl (by omega) rfl (by kernel_rfl) ?_)
      | (refine wval rfl (.lookup 60 (.tmp 19) (.tmp 20) false) rfl _ (exec_lookM _ _ _ _ HM1.out.mp rfl rfl HK.out (by have := HM1.out.nn; omega)) ?_)
      | (refine wval rfl (.indexAddr 56 (.tmp 21) (.tmp 23)) rfl _ (exec_ixI _ _ _ _ HC.out rfl HJ.out) ?_)
      | (refine wval rfl (.load 59 (.tmp 24)) rfl _ (exec_loadI _ _ _ rfl (HQ1.out.cell j1 HJ.out)) ?_)
      | (have hgo := Bw1; clear hgo
         refine wpList_store_as rfl 59 (.tmp 6) (.tmp 25) rfl 64 (imF ((pend k).getD j1 [])) isImg r_x rfl rfl (by omega) (fun _ _ => rfl) (fun i hi => putN_whole hi) ?_
         intro w2 q gk
         replace r_x := q
         have Bw2 := zbg HGS Bw1 gk L_x.out
         clear Bw1 gk q r_y))
    exact ret_cell_as _ rfl isImg r_x rfl (by omega) (fun _ _ => rfl) rfl ⟨rfl, Bw2⟩
set_option maxHeartbeats 4000000 in
set_option maxRecDepth 20000 in
theorem read_raw (y g b n c : Nat) (ops : Int) (rc : Bool) (rl : Int) (off : Bool) (w : World) (r_y : w.rowIs y 62 6 (devF (.slice (some ⟨g, 0, none⟩) n c) (.map (some b)) ops rc rl off)) {N : Nat} {pv : Nat → Value} {pb : Nat → Nat} {good : Nat → List UInt8} {pend : Nat → List (List UInt8)} (hm : BkM y g b (.slice (some ⟨g, 0, none⟩) n c) pv pb w N n good pend) (k : Nat) (hk : k < n) (hp : (pend k).length < 1000000000) (hl : (if (pend k).length = 0 then good k else (pend k).getD ((pend k).length - 1) []).length = 64) : Calls Try.prog 41 #[.pointer (some ⟨y, 0, none⟩), .int .i64 (k : Int)] w fun e w' => ∃ v, e = .returned (.tuple #[v, .int .i64 0]) ∧ Bs w' v (if (pend k).length = 0 then good k else (pend k).getD ((pend k).length - 1) []) ∧ Below w.heap.size w w' := by
  have Bw0 := Below.refl w.heap.size w
  have HGS : Hid (∀ wq : World, Below w.heap.size w wq → w.heap.size ≤ wq.heap.size) := Lib.hid fun wq h => h.size
  have HK := Lib.hid hk
  have HM := Lib.hid hm
  have HP := Lib.hid hp
  obtain ⟨l, hll⟩ : ∃ l, l = if (pend k).length = 0 then good k else (pend k).getD ((pend k).length - 1) [] := ⟨_, rfl⟩
  rw [← hll] at hl ⊢
  have HL := Lib.hid hll
  have HLL := Lib.hid hl
  obtain ⟨ak, ck, hck⟩ := hm.look k hk
  have HC := Lib.hid hck
  have HH : Hid ((decide (0 ≤ (k : Int)) && decide ((k : Int) < (n : Int))) = true) := Lib.hid (by simp; omega)
  clear hk hm hp hll hl hck
  go_enter Try.func41, Try.ntmps41
  go_wp2_with (first
    | (have hgo := Bw0; clear hgo
       go_at_call 54
       refine (has_any y g b n c ops rc rl off _ r_y (k : Int)).mono ?_
       rintro e w1 ⟨rfl, rfl⟩
       rw [HH.out]
       have Bw1 := Bw0
       clear Bw0)
    | (refine wpList_loadG 60 (.tmp 15) rfl rfl (.map (some b)) r_y rfl (by omega) rfl (by kernel_rfl) ?_)
    | (refine wval rfl (.lookup 60 (.tmp 16) (.tmp 17) false) rfl (.slice ak (pend k).length ck) (by rw [← HC.out]; exact exec_lookM _ _ _ _ HM.out.mp rfl rfl HK.out (by have := HM.out.nn; omega)) ?_)
    | (have hgo := Bw1; clear hgo
       go_at_call 45
       refine (behind_any y g b n c ops rc rl off _ r_y HM.out k (pend k).length HK.out (Nat.le_refl _) HP.out).mono ?_
       rintro e w2 ⟨rfl, kk⟩
       rw [← HL.out]
       have Bw2 := zbt HGS Bw1 kk
       clear Bw1 kk)
    | (have hgo := Bw2; clear hgo
       refine wpList_alloc_row rfl 59 rfl 64 (fun _ => .int .u8 0) zeroImg ?_
       intro x w3 lx r_x kk
       have L_x := Lib.hid (zrl HGS Bw2 lx)
       have Bw3 := zbt HGS Bw2 kk
       clear Bw2 kk lx)
    | (have hgo := Bw3; clear hgo
       refine wpList_store_as rfl 59 (.tmp 6) (.tmp 20) rfl 64 (imF l) isImg r_x rfl rfl (by omega) (fun _ _ => rfl) (fun i hi => putN_whole hi) ?_
       intro w4 q gk
       replace r_x := q
       have Bw4 := zbg HGS Bw3 gk L_x.out
       clear Bw3 gk q r_y)
    | (refine wval rfl (.slice 59 (.tmp 6) none none none) rfl _ (exec_sliceI _ _ _ rfl) ?_))
  go_ret2
  have hb := bs_img (n := 64) r_x HLL.out (Nat.le_refl _)
  rw [List.take_of_length_le (Nat.le_of_eq HLL.out)] at hb
  exact ⟨_, rfl, hb, Bw4⟩
set_option maxHeartbeats 4000000 in
set_option maxRecDepth 20000 in
theorem read_out (y g b n c : Nat) (ops : Int) (rc : Bool) (rl : Int) (off : Bool) (w : World) (r_y : w.rowIs y 62 6 (devF (.slice (some ⟨g, 0, none⟩) n c) (.map (some b)) ops rc rl off)) (k : Int) (hk : (decide (0 ≤ k) && decide (k < (n : Int))) = false) : Calls Try.prog 41 #[.pointer (some ⟨y, 0, none⟩), .int .i64 k] w fun e w' => e = .returned (.tuple #[.slice none 0 0, .int .i64 1]) ∧ w' = w := by
  have HH := Lib.hid hk
  clear hk
  go_enter Try.func41, Try.ntmps41
  go_wp2_with (first
    | (go_at_call 54
       refine (has_any y g b n c ops rc rl off _ r_y k).mono ?_
       rintro e w1 ⟨rfl, rfl⟩
       rw [HH.out]))
  go_ret2
  exact ⟨rfl, rfl⟩
theorem readN_any (k : Int) (w : World) : Calls Try.prog 41 #[.pointer none, .int .i64 k] w fun e w' => e = .returned (.tuple #[.slice none 0 0, .int .i64 1]) ∧ w' = w := by
  go_enter Try.func41, Try.ntmps41
  go_wp2_with (first
    | (go_at_call 54
       refine (hasN_any k _).mono ?_
       rintro e w1 ⟨rfl, rfl⟩))
  go_ret2
  exact ⟨rfl, rfl⟩
end Go.Proofs.Ytefabimolfcllaa

/- The program's device: begin, Write. -/
namespace Go.Proofs.Ytefabimolfcllaa
open Go.RowKit Go.Deep
open Go.Maps (Keyed has IsMap)
set_option linter.unusedSimpArgs false
set_option linter.unusedVariables false

theorem ownV_some {w : World} {v : Value} {g n : Nat} {L : Nat → List UInt8} (h : Ims w v g n L) {x : Nat} (hx : v.ownBlock = some x) : x = g := by
  rw [h.own] at hx
  exact (Option.some.inj hx).symm
/-- An image appended to what is pending of block k. -/
theorem BkM.write {y g b n N : Nat} {vg : Value} {pv : Nat → Value} {pb : Nat → Nat} {w0 w1 w2 : World} {good : Nat → List UInt8} {pend : Nat → List (List UInt8)} (h : BkM y g b vg pv pb w0 N n good pend) (hy : y < w0.heap.size) (k : Nat) (hk : k < n) (l : List UInt8) {v' : Value} {g' : Nat}
    (q1 : Ims w1 v' g' ((pend k).length + 1) fun i => if i < (pend k).length then (pend k).getD i [] else l) (q2 : Sam (fun x => (pv k).ownBlock = some x) w0 w1) (q3 : (pv k).ownBlock = some g' ∨ w0.heap.size ≤ g') (q4 : MpAt w2 b (N + 1) n (updF pv k v')) (q5 : Sam (· = b) w1 w2) :
    BkM y g b vg (updF pv k v') (updF pb k g') w2 (N + 1) n good (updF pend k (pend k ++ [l])) := by
  have own : ∀ x, (pv k).ownBlock = some x → pend k ≠ [] ∧ x = pb k := fun x hx => by
    rcases h.pd k hk with ⟨e1, e2⟩ | ⟨e1, e2⟩
    · rw [e2] at hx; cases hx
    · exact ⟨e1, ownV_some e2 hx⟩
  have lt := h.lt hy
  have ne : ∀ x, ownB y g b n pb pend x → (∀ z, (pv k).ownBlock = some z → x ≠ z) → x ≠ g' := fun x hx hz e => by
    rcases q3 with q | q
    · exact hz _ q e
    · have := lt x hx; omega
  have ny : ∀ z, (pv k).ownBlock = some z → y ≠ z := fun z hz e => by obtain ⟨e1, e2⟩ := own z hz; exact (h.py k hk e1).1 (e2.symm.trans e.symm)
  have ng : ∀ z, (pv k).ownBlock = some z → g ≠ z := fun z hz e => by obtain ⟨e1, e2⟩ := own z hz; exact (h.py k hk e1).2.1 (e2.symm.trans e.symm)
  have nb : ∀ z, (pv k).ownBlock = some z → b ≠ z := fun z hz e => by obtain ⟨e1, e2⟩ := own z hz; exact (h.py k hk e1).2.2 (e2.symm.trans e.symm)
  have np : ∀ j, j < n → pend j ≠ [] → j ≠ k → ∀ z, (pv k).ownBlock = some z → pb j ≠ z := fun j hj hp hjk z hz e => by obtain ⟨e1, e2⟩ := own z hz; exact h.pp j k hj hk hp e1 hjk (e.trans e2)
  have hgy := ne y (.inl rfl) ny
  have hgg := ne g (.inr (.inl rfl)) ng
  have hgb := ne b (.inr (.inr (.inl rfl))) nb
  have hgp : ∀ j, j < n → pend j ≠ [] → j ≠ k → pb j ≠ g' := fun j hj hp hjk => ne _ (.inr (.inr (.inr ⟨j, hj, hp, rfl⟩))) (np j hj hp hjk)
  have ap : pend k ++ [l] ≠ [] := by simp
  refine ⟨h.n1, h.nn, (h.lg.sam q2 fun e => ng _ e rfl).sam q5 (fun e => h.gb e), q4, fun j hj => ?_, h.yg, h.yb, h.gb, fun j hj hp => ?_, fun i j hi hj hpi hpj hij => ?_⟩
  · by_cases e : j = k
    · subst e
      simp only [updF, if_true]
      refine .inr ⟨ap, ?_⟩
      rw [List.length_append]
      exact (q1.sam q5 (Ne.symm hgb)).congr fun i hi => by
        show (if i < (pend j).length then (pend j).getD i [] else l) = (pend j ++ [l]).getD i []
        rw [List.getD_eq_getElem?_getD, List.getD_eq_getElem?_getD]
        by_cases h2 : i < (pend j).length
        · rw [if_pos h2, List.getElem?_append_left h2]
        · rw [if_neg h2, List.getElem?_append_right (by omega), show i - (pend j).length = 0 by omega]
          rfl
    · simp only [updF, if_neg e]
      exact (h.pd j hj).imp id fun ⟨e1, e2⟩ => ⟨e1, (e2.sam q2 fun hz => np j hj e1 e _ hz rfl).sam q5 ((h.py j hj e1).2.2)⟩
  · by_cases e : j = k
    · subst e
      simp only [updF, if_true]
      exact ⟨Ne.symm hgy, Ne.symm hgg, Ne.symm hgb⟩
    · simp only [updF, if_neg e] at hp ⊢
      exact h.py j hj hp
  · by_cases e1 : i = k
    · subst e1
      have e2 : ¬ j = i := fun e => hij e.symm
      simp only [updF, if_true, if_neg e2] at hpj ⊢
      exact Ne.symm (hgp j hj hpj e2)
    · by_cases e2 : j = k
      · subst e2
        simp only [updF, if_true, if_neg e1] at hpi ⊢
        exact hgp i hi hpi e1
      · simp only [updF, if_neg e1, if_neg e2] at hpi hpj ⊢
        exact h.pp i j hi hj hpi hpj hij
theorem lrel_bd {S : DS} {rc : Bool} {rl : Int} (h : lrel S rc rl) (hl : (Lit.int .i64 S.left).wf = true) : rc = true → 0 ≤ rl ∧ rl ≤ 9223372036854775807 := fun hc => by
  have hb := bd_i64 hl
  cases ho : S.off with
  | true =>
    have := (h.1 ho).2
    omega
  | false =>
    obtain ⟨h1, h2⟩ := h.2 ho
    rw [hc] at h1
    have := h2 h1.symm
    split at this <;> omega
theorem bk_begin (T D : Nat → Prop) (w : World) (y : Nat) (S : DS) (B : Nat) (h : BkAt T D w y S) (hs : okD S B) (hB : B ≤ 100000) : Calls Try.prog 44 #[.pointer (some ⟨y, 0, none⟩)] w fun e w' => e = .returned (.int .i64 (if opOk S = true then 0 else 10)) ∧ BkAtS 1 T D w' y (opD S) ∧ Sam (· = y) w w' := by
  obtain ⟨g, b, c, pv, pb, rc, rl, N, r_y, hm, hN, hl, hT, hD⟩ := h
  obtain ⟨o1, o2, o3⟩ := lrel_op hl
  obtain ⟨s1, s2, s3, s4⟩ := opD_same S
  have ho := hs.ops
  refine (begin_any y g b S.n c S.ops rc rl S.off w r_y hm.n1 (by omega) (lrel_bd hl hs.left)).mono ?_
  rintro e w1 ⟨rfl, r1, k1⟩
  refine ⟨?_, ⟨g, b, c, pv, pb, rc, _, N, ?_, ?_, ?_, o3, ?_, ?_⟩, k1⟩
  · rw [o1]
    cases (rc && decide (rl = 0)) <;> rfl
  · rw [s1, s4, o2]
    exact r1
  · rw [s1, s2, s3]
    exact hm.sam k1 fun x hx => .inl hx
  · rw [s4]; omega
  · rw [s1, s3]; exact hT
  · rw [s1, s3]; exact hD
theorem bk_has (T D : Nat → Prop) (w : World) (y : Nat) (S : DS) (h : BkAt T D w y S) (k : Int) : Calls Try.prog 54 #[.pointer (some ⟨y, 0, none⟩), .int .i64 k] w fun e w' => e = .returned (.bool (decide (0 ≤ k) && decide (k < (S.n : Int)))) ∧ w' = w := by
  obtain ⟨g, b, c, pv, pb, rc, rl, N, r_y, hm, hN, hl, hT, hD⟩ := h
  exact has_any y g b S.n c S.ops rc rl S.off w r_y k
theorem BkAt.ty {T D : Nat → Prop} {w : World} {y : Nat} {S : DS} (h : BkAt T D w y S) : T y := by
  obtain ⟨g, b, c, pv, pb, rc, rl, N, r_y, hm, hN, hl, hT, hD⟩ := h
  exact (hT y).2 (.inl rfl)
theorem Sam.one {T : Nat → Prop} {w w' : World} {y : Nat} (h : Sam (· = y) w w') (hT : T y) : Sam T w w' := h.mono fun b _ hb => by rw [hb]; exact hT
set_option maxHeartbeats 4000000 in
set_option maxRecDepth 20000 in
theorem write_has (T D : Nat → Prop) (w : World) (y : Nat) (S : DS) (B : Nat) (k : Int) (ad : Option Addr) (n cap : Nat) (h : BkAt T D w y S) (hk : (decide (0 ≤ k) && decide (k < (S.n : Int))) = false) : Calls Try.prog 39 #[.pointer (some ⟨y, 0, none⟩), .int .i64 k, .slice ad n cap] w fun e w' => e = .returned (.int .i64 1) ∧ w' = w := by
  have HB := Lib.hid h
  have HH := Lib.hid hk
  clear h hk
  go_enter Try.func39, Try.ntmps39
  go_wp2_with (first
    | (go_at_call 54
       refine (bk_has T D _ y S HB.out k).mono ?_
       rintro e w1 ⟨rfl, rfl⟩
       rw [HH.out]))
  go_ret
  exact ⟨rfl, rfl⟩
set_option maxHeartbeats 4000000 in
set_option maxRecDepth 20000 in
theorem write_len (T D : Nat → Prop) (w : World) (y : Nat) (S : DS) (B : Nat) (k : Int) (ad : Option Addr) (n cap : Nat) (h : BkAt T D w y S) (hk : (decide (0 ≤ k) && decide (k < (S.n : Int))) = true) (hn : ¬ n = 64) : Calls Try.prog 39 #[.pointer (some ⟨y, 0, none⟩), .int .i64 k, .slice ad n cap] w fun e w' => e = .returned (.int .i64 1) ∧ w' = w := by
  have HB := Lib.hid h
  have HH := Lib.hid hk
  have e1 : ((n : Int) != 64) = true := by simp; omega
  clear h hk hn
  go_enter Try.func39, Try.ntmps39
  go_wp2_with (first
    | (go_at_call 54
       refine (bk_has T D _ y S HB.out k).mono ?_
       rintro e w1 ⟨rfl, rfl⟩
       rw [HH.out]))
  go_ret
  exact ⟨rfl, rfl⟩
set_option maxHeartbeats 4000000 in
set_option maxRecDepth 20000 in
theorem write_off (T D : Nat → Prop) (w : World) (y : Nat) (S : DS) (B : Nat) (k : Int) (ad : Option Addr) (n cap : Nat) (h : BkAt T D w y S) (hs : okD S B) (hB : B ≤ 100000) (hk : (decide (0 ≤ k) && decide (k < (S.n : Int))) = true) (hn : n = 64) (ho : opOk S = false) : Calls Try.prog 39 #[.pointer (some ⟨y, 0, none⟩), .int .i64 k, .slice ad n cap] w fun e w' => e = .returned (.int .i64 10) ∧ BkAt T D w' y (opD S) ∧ Sam (· = y) w w' := by
  subst hn
  have HB := Lib.hid h
  have HH := Lib.hid hk
  have HS := Lib.hid hs
  have HBB := Lib.hid hB
  have HO := Lib.hid ho
  clear h hk hs hB ho
  go_enter Try.func39, Try.ntmps39
  go_wp2_with (first
    | (go_at_call 54
       refine (bk_has T D _ y S HB.out k).mono ?_
       rintro e w1 ⟨rfl, rfl⟩
       rw [HH.out])
    | (have hgo := HBB; clear hgo
       go_at_call 44
       refine (bk_begin T D _ y S B HB.out HS.out HBB.out).mono ?_
       rintro e w2 ⟨rfl, hb, hsm⟩
       rw [if_neg (by rw [HO.out]; decide)]
       have HR := Lib.hid hb
       have HSM := Lib.hid hsm
       clear hb hsm HBB))
  go_ret
  exact ⟨rfl, HR.out.weak, HSM.out⟩
theorem exec_loadA {w : World} (ρ : Operand → Value) (x : Operand) (ty : TypeId) {a : Addr} {f : Nat → Value} (hx : ρ x = .pointer (some a)) (hc : ∀ j, j < 64 → w.cell? (a.add j) = some (f j)) : (execOp ρ (mkOp (.load 59 x) ty)).run Try.prog w = .ok (.value (.agg (arrOf 64 f))) w := by
  obtain ⟨b, off, sp⟩ := a
  have h0 := hc 0 (by omega)
  have hsp : sp = none := by
    cases sp with
    | none => rfl
    | some s =>
      unfold Addr.add at h0
      unfold World.cell? at h0
      split at h0 <;> simp_all
  subst hsp
  exact exec_loadI ρ x ty hx fun j hj => by have := hc j hj; rwa [Addr.add_lit] at this
theorem ims_one (w : World) (l : List UInt8) : Ims (w.alloc (.cells (arrOf 64 (imF l)) 59)) (.slice (some ⟨w.heap.size, 0, none⟩) 1 1) w.heap.size 1 (fun _ => l) :=
  ⟨1, imF l, rfl, Nat.le_refl _, by unfold maxLen; omega, rowIs_arr w 64 (imF l) 59, fun j hj => by
    unfold imC
    rw [show j % 64 = j by omega]⟩
theorem linf_appI {ops : Array Oper} {Q : Exit → Act → World → Prop} {E : World → World → Prop} {L i : Nat} {r : Stp} {a : Act} {w : World} {o : Oper} (d : Nat) (s x : Operand) (t : TypeId) (ho : ops[i]? = some o) (hd : o.dst = some d) (hop : o.op = .call { callee := .builtin .append, args := #[s, x], argTypes := #[56, 56] }) (ht : o.type = t) (hw : Region.wanted o (yielded ops a.tmps) = true)
    {v vb : Value} {n m gb : Nat} {LL M : Nat → List UInt8} (hown : (∃ g, Ims w v g n LL) ∨ (n = 0 ∧ (v = .slice none 0 0 ∨ ∃ g, w.ownsRow g 59 64 v 0 []))) (hb : Ims w vb gb m M) (h0 : 0 < m) (hs : a.eval s = v) (hx : a.eval x = vb) (hlen : n + m ≤ 1000000) (hE : ∀ w1, Sam (fun b => v.ownBlock = some b) w w1 → E w w1)
    (h : ∀ v' w1 g', Ims w1 v' g' (n + m) (fun i => if i < n then LL i else M (i - n)) → Sam (fun b => v.ownBlock = some b) w w1 → (v.ownBlock = some g' ∨ w.heap.size ≤ g') → LinF Try.prog ops Q E L r (a.put (some d) v') w1) : wpOp Try.prog ops Q i (fun a' w' => E w w' ∧ LinF Try.prog ops Q E L r a' w') a w := by
  obtain ⟨v', w1, g', hr, p1, p2, p3⟩ := exec_appI a.eval s x t v vb n m gb LL M hown hb h0 hs hx hlen
  exact linf_made d _ t v' w1 ho hd hop ht hw hr (hE w1 p2) (h v' w1 g' p1 p2 p3)
theorem linf_upd {ops : Array Oper} {Q : Exit → Act → World → Prop} {E : World → World → Prop} {L : Nat} {a : Act} {w : World} {o : Oper} (op : Op) (t : TypeId) (ho : ops[L]? = some o) (hd : o.dst = none) (hop : o.op = op) (ht : o.type = t) (hw : Region.wanted o (yielded ops a.tmps) = true) (R : World → Prop) (hx : ∃ w1, (execOp a.eval (mkOp op t)).run Try.prog w = .ok .skip w1 ∧ R w1) (h : ∀ w1, R w1 → Q .normal a w1) : LinF Try.prog ops Q E L .done a w := by
  obtain ⟨w1, h1, h2⟩ := hx
  exact linf_store op t w1 ho hd hop ht hw h1 (h w1 h2)
theorem wr_own {y g b n k g4 m : Nat} {pb : Nat → Nat} {pend : Nat → List (List UInt8)} {S : DS} {l : List UInt8} {T : Nat → Prop} (hs : n = S.n ∧ pend = S.pend) (hT : ∀ x, T x ↔ ownB y g b (opD S).n pb (opD S).pend x) (hg : T g4 ∨ m ≤ g4) : ∀ x, ownB y g b (wrS S k l).n (updF pb k g4) (wrS S k l).pend x → T x ∨ m ≤ x := by
  obtain ⟨s1, s2, s3, s4⟩ := opD_same S
  rw [s1, s3] at hT
  rintro x (h | h | h | ⟨j, hj, hp, rfl⟩)
  · exact .inl ((hT x).2 (.inl h))
  · exact .inl ((hT x).2 (.inr (.inl h)))
  · exact .inl ((hT x).2 (.inr (.inr (.inl h))))
  · replace hj : j < S.n := by rw [← s1]; exact hj
    replace hp : updF S.pend k (S.pend k ++ [l]) j ≠ [] := hp
    unfold updF at hp ⊢
    by_cases e : j = k
    · rw [if_pos e]; exact hg
    · rw [if_neg e] at hp ⊢
      exact .inl ((hT _).2 (.inr (.inr (.inr ⟨j, hj, hp, rfl⟩))))
set_option maxHeartbeats 4000000 in
set_option maxRecDepth 20000 in
theorem write_ok (T D : Nat → Prop) (w : World) (y : Nat) (S : DS) (B k : Nat) (ax : Addr) (cap : Nat) (l : List UInt8) (h : BkAt T D w y S) (hs : okD S B) (hB : B ≤ 100000) (hk : k < S.n) (hl : BsK T w (.slice (some ax) 64 cap) l) (ho : opOk S = true) : Calls Try.prog 39 #[.pointer (some ⟨y, 0, none⟩), .int .i64 (k : Int), .slice (some ax) 64 cap] w fun e w' => e = .returned (.int .i64 0) ∧ BkNew BkAt T D w y (wrS S k l) w' := by
  have HB := Lib.hid h
  have HH : Hid ((decide (0 ≤ (k : Int)) && decide ((k : Int) < (S.n : Int))) = true) := Lib.hid (by simp; omega)
  have HS := Lib.hid hs
  have HBB := Lib.hid hB
  have HB9 := Lib.hid hB
  have HO := Lib.hid ho
  have HK0 := Lib.hid hk
  have HL := Lib.hid hl
  have HTY := Lib.hid h.ty
  clear h hk hs hB ho hl
  go_enter Try.func39, Try.ntmps39
  go_wp2_with (first
    | (go_at_call 54
       refine (bk_has T D _ y S HB.out (k : Int)).mono ?_
       rintro e w1 ⟨rfl, rfl⟩
       rw [HH.out])
    | (have hgo := HBB; clear hgo
       go_at_call 44
       refine (bk_begin T D _ y S B HB.out HS.out HBB.out).mono ?_
       rintro e w2 ⟨rfl, hb, hsm⟩
       rw [if_pos HO.out]
       have HR := Lib.hid hb
       have HSM := Lib.hid hsm
       clear hb hsm HBB))
  obtain ⟨g, b, c, pv, pb, rc, rl, N, r_y, hm, hN, hlr, hT, hD⟩ := HR.out
  obtain ⟨s1, s2, s3, s4⟩ := opD_same S
  obtain ⟨n, hn⟩ : ∃ n, n = (opD S).n := ⟨_, rfl⟩
  obtain ⟨pend, hpe⟩ : ∃ pend, pend = (opD S).pend := ⟨_, rfl⟩
  rw [← hn, ← hpe] at hm
  rw [← hn] at r_y
  have HK : Hid (k < n) := Lib.hid (by rw [hn, s1]; exact HK0.out)
  have HM := Lib.hid hm
  obtain ⟨ak, ck, hck⟩ := hm.look k HK.out
  have HC := Lib.hid hck
  have own : ∀ x, (pv k).ownBlock = some x → pend k ≠ [] ∧ x = pb k := fun x hx => by
    rcases hm.pd k HK.out with ⟨e1, e2⟩ | ⟨e1, e2⟩
    · rw [e2] at hx; cases hx
    · exact ⟨e1, ownV_some e2 hx⟩
  have HFY : Hid (¬ (pv k).ownBlock = some y) := Lib.hid fun e => by obtain ⟨e1, e2⟩ := own _ e; exact (hm.py k HK.out e1).1 e2.symm
  have HFB : Hid (¬ (pv k).ownBlock = some b) := Lib.hid fun e => by obtain ⟨e1, e2⟩ := own _ e; exact (hm.py k HK.out e1).2.2 e2.symm
  have FT : ∀ x, (pv k).ownBlock = some x → T x := fun x hx => by obtain ⟨e1, e2⟩ := own _ hx; exact (hT x).2 (.inr (.inr (.inr ⟨k, by rw [← hn]; exact HK.out, by rw [← hpe]; exact e1, e2⟩)))
  have HLB : Hid (∀ wx, Sam (fun x => (pv k).ownBlock = some x) w2 wx → ∀ j, j < 64 → wx.cell? (ax.add j) = some (imF l j)) := Lib.hid fun wx hx j hj => by
    obtain ⟨a', cap', he, f1, f2, f3, f4⟩ := HL.out _ ((HSM.out.one HTY.out).trans (hx.mono fun x _ => FT x))
    injection he with he1 he2 he3
    obtain ⟨f5, f6⟩ := f4 ax (by rw [← he1]) j (by omega)
    rw [f6]
    unfold imF
    rw [List.getD_eq_getElem?_getD, List.getElem?_eq_getElem (by omega)]
    rfl
  have HP : Hid ((pend k).length ≤ 100000) := Lib.hid (by rw [hpe, s3]; exact Nat.le_trans (HS.out.cnt k) HB9.out)
  have AP : Hid (∀ wx, Below w2.heap.size w2 wx → (∃ g, Ims wx (.slice ak (pend k).length ck) g (pend k).length fun i => (pend k).getD i []) ∨ ((pend k).length = 0 ∧ (Value.slice ak (pend k).length ck = .slice none 0 0 ∨ ∃ g, wx.ownsRow g 59 64 (.slice ak (pend k).length ck) 0 []))) := Lib.hid fun wx hx => by
    rcases HM.out.pd k HK.out with ⟨e1, e2⟩ | ⟨e1, e2⟩
    · exact .inr ⟨by rw [e1]; rfl, .inl (by rw [← HC.out]; exact e2)⟩
    · exact .inl ⟨_, by rw [← HC.out]; exact e2.bel hx⟩
  have HT := Lib.hid hT
  have HD := Lib.hid hD
  have HNN := Lib.hid hN
  have HLR := Lib.hid hlr
  have HSN : Hid (n = S.n ∧ pend = S.pend) := Lib.hid ⟨hn.trans s1, hpe.trans s3⟩
  have HON := Lib.hid own
  have HFT := Lib.hid FT
  have HYL := Lib.hid r_y.lt
  clear hm hN hlr hT hD hn hpe s1 s2 s3 s4 own FT hck
  have HE : Sam (fun x => (pv k).ownBlock = some x) w2 w2.drew := (Sam.refl _ _).drew
  refine wp_region_linf (Sam (fun x => (pv k).ownBlock = some x)) (fun w => Sam.refl _ w) (fun _ _ _ h k => h.trans k) 16 20 (.rd 0 (.rd 1 (.rd 2 (.rd 3 (.rd 4 (.rd 5 (.rd 6 (.rd 7 (.rd 8 (.rd 9 (.rd 10 (.rd 11 (.rd 12 (.rd 13 (.wr 14 (.wr 15 .done)))))))))))))))) (by kernel_rfl) (by kernel_rfl) (by decide) (by kernel_rfl) (fun d _ _ _ _ h => by cases d <;> exact h) ?_
  refine linf_pure 22 _ _ (.pointer (some ⟨y, 0, none⟩)) rfl rfl rfl rfl rfl (fun wx hx => by unfold mkOp; go_simp; all_goals (with_reducible rfl)) ?_
  simp only [Act.put, zA, zB, zC]
  refine linf_pure 23 _ _ (.pointer (some ⟨y, 0, none⟩)) rfl rfl rfl rfl rfl (fun wx hx => by unfold mkOp; go_simp; all_goals (with_reducible rfl)) ?_
  simp only [Act.put, zA, zB, zC]
  refine linf_pure 24 _ _ (.pointer (some ⟨y, 1, none⟩)) rfl rfl rfl rfl rfl (fun wx hx => by unfold mkOp; go_simp; all_goals (with_reducible rfl)) ?_
  simp only [Act.put, zA, zB, zC]
  refine linf_pure 25 _ _ (.map (some b)) rfl rfl rfl rfl rfl (fun wx hx => exec_loadG _ _ _ _ (.map (some b)) r_y (HE.trans hx) HFY.out rfl (by omega) rfl (by kernel_rfl)) ?_
  simp only [Act.put, zA, zB, zC]
  refine linf_pure 26 _ _ (.int .i64 (k : Int)) rfl rfl rfl rfl rfl (fun wx hx => by unfold mkOp; go_simp; all_goals (with_reducible rfl)) ?_
  simp only [Act.put, zA, zB, zC]
  refine linf_pure 27 _ _ (.pointer (some ⟨y, 0, none⟩)) rfl rfl rfl rfl rfl (fun wx hx => by unfold mkOp; go_simp; all_goals (with_reducible rfl)) ?_
  simp only [Act.put, zA, zB, zC]
  refine linf_pure 28 _ _ (.pointer (some ⟨y, 0, none⟩)) rfl rfl rfl rfl rfl (fun wx hx => by unfold mkOp; go_simp; all_goals (with_reducible rfl)) ?_
  simp only [Act.put, zA, zB, zC]
  refine linf_pure 29 _ _ (.pointer (some ⟨y, 1, none⟩)) rfl rfl rfl rfl rfl (fun wx hx => by unfold mkOp; go_simp; all_goals (with_reducible rfl)) ?_
  simp only [Act.put, zA, zB, zC]
  refine linf_pure 30 _ _ (.map (some b)) rfl rfl rfl rfl rfl (fun wx hx => exec_loadG _ _ _ _ (.map (some b)) r_y (HE.trans hx) HFY.out rfl (by omega) rfl (by kernel_rfl)) ?_
  simp only [Act.put, zA, zB, zC]
  refine linf_pure 31 _ _ (.int .i64 (k : Int)) rfl rfl rfl rfl rfl (fun wx hx => by unfold mkOp; go_simp; all_goals (with_reducible rfl)) ?_
  simp only [Act.put, zA, zB, zC]
  refine linf_pure 32 _ _ (.slice ak (pend k).length ck) rfl rfl rfl rfl rfl (fun wx hx => by rw [← HC.out]; exact exec_lookM _ _ _ _ (HM.out.mp.sam (HE.trans hx) HFB.out) rfl rfl HK.out (by have := HM.out.nn; omega)) ?_
  simp only [Act.put, zA, zB, zC]
  refine linf_pure 33 _ _ (.slice (some ax) 64 cap) rfl rfl rfl rfl rfl (fun wx hx => by unfold mkOp; go_simp; all_goals (with_reducible rfl)) ?_
  simp only [Act.put, zA, zB, zC]
  refine linf_pure 34 _ _ (.pointer (some ax)) rfl rfl rfl rfl rfl (fun wx hx => exec_s2a _ _ _ rfl rfl) ?_
  simp only [Act.put, zA, zB, zC]
  refine linf_pure 35 _ _ (.agg (arrOf 64 (imF l))) rfl rfl rfl rfl rfl (fun wx hx => exec_loadA _ _ _ rfl (HLB.out _ (HE.trans hx))) ?_
  simp only [Act.put, zA, zB, zC]
  refine linf_made 36 _ _ _ _ rfl rfl rfl rfl rfl (exec_oneI _ _ _ rfl) (Sam.of_below ((Below.refl _ _).alloc (Nat.le_refl _) _)) ?_
  have hal : Sam (fun x => (pv k).ownBlock = some x) w2.drew (w2.drew.alloc (.cells (arrOf 64 (imF l)) 59)) := Sam.of_below ((Below.refl _ _).alloc (Nat.le_refl _) _)
  have r_o : Ims (w2.drew.alloc (.cells (arrOf 64 (imF l)) 59)) (.slice (some ⟨w2.drew.heap.size, 0, none⟩) 1 1) w2.drew.heap.size 1 (fun _ => l) := ims_one _ _
  replace HE := HE.trans hal
  have hbl : Below w2.heap.size w2 (w2.drew.alloc (.cells (arrOf 64 (imF l)) 59)) := ((Below.refl _ _).drew).alloc (Nat.le_refl _) _
  generalize hw3 : (w2.drew.alloc (.cells (arrOf 64 (imF l)) 59)) = w3 at r_o HE hbl ⊢
  have hws : w2.drew.heap.size = w2.heap.size := rfl
  rw [hws] at r_o ⊢
  clear hal hws
  simp only [Act.put, zA, zB, zC]
  refine linf_appI 37 (.tmp 32) (.tmp 36) _ rfl rfl rfl rfl rfl (AP.out _ hbl) r_o (by omega) rfl rfl (by have := HP.out; omega) (fun wx hx => by rw [← HC.out] at hx; exact hx) ?_
  intro v4 w4 g4 p1 p2 p3
  rw [← HC.out] at p2 p3
  replace HE := HE.trans p2
  simp only [Act.put, zA, zB, zC]
  refine linf_upd _ _ rfl rfl rfl rfl rfl _ (exec_updM _ _ _ _ _ (v := v4) (HM.out.mp.sam HE HFB.out) rfl rfl rfl HK.out (by have := HM.out.nn; omega) (fun e => by rw [e] at p1; obtain ⟨_, e2, _⟩ := p1.shape; cases e2) (by have := HNN.out; have := HS.out.ops; have := HB9.out; have := (opD_same S).2.2.2; unfold maxLen; omega)) ?_
  rintro w5 ⟨u1, u2⟩
  have HU := Lib.hid (HM.out.write HYL.out k HK.out l p1 HE (p3.imp id fun h => Nat.le_trans hbl.size h) u1 u2)
  have r5 := Sam.row (Sam.row r_y HE HFY.out) u2 (HM.out.yb)
  have HS5 := Lib.hid ((HSM.out.one HTY.out).trans ((HE.mono fun x _ => HFT.out x).trans (u2.mono fun x _ e => (HT.out x).2 (.inr (.inr (.inl e))))))
  have HG4 := Lib.hid (p3.imp (fun h => HFT.out _ h) fun h => Nat.le_trans HSM.out.size (Nat.le_trans hbl.size h))
  have HSZ := Lib.hid HSM.out.size
  clear p1 p2 p3 u1 u2 HE hw3 hbl r_o r_y
  go_wp2
  go_ret
  refine ⟨rfl, _, _, ⟨g, b, c, updF pv k v4, updF pb k g4, rc, rl, N + 1, ?_, ?_, by have := HNN.out; show N + 1 + 0 ≤ (opD S).ops; omega, HLR.out, fun x => Iff.rfl, fun x => Iff.rfl⟩, HS5.out, ?_, ?_⟩
  · have r6 := r5
    rw [HSN.out.1] at r6
    show w5.rowIs y 62 6 (devF (.slice (some ⟨g, 0, none⟩) (opD S).n c) (.map (some b)) (opD S).ops rc rl (opD S).off)
    rw [(opD_same S).1]
    exact r6
  · have hu := HU.out
    rw [HSN.out.1, HSN.out.2] at hu
    show BkM y g b (.slice (some ⟨g, 0, none⟩) (opD S).n c) _ _ w5 (N + 1) (opD S).n (opD S).good (updF S.pend k (S.pend k ++ [l]))
    rw [(opD_same S).1]
    exact hu
  · exact wr_own HSN.out HT.out HG4.out
  · exact wr_own HSN.out HD.out (HG4.out.imp (fun h => (HD.out _).2 ((HT.out _).1 h)) id)
end Go.Proofs.Ytefabimolfcllaa

/- The program's device: Flush. -/
namespace Go.Proofs.Ytefabimolfcllaa
open Go.RowKit Go.Deep
open Go.Maps (Keyed has IsMap)
set_option linter.unusedSimpArgs false
set_option linter.unusedVariables false

/-- An image is stored into a slice of images. -/
theorem exec_storeI {w : World} (ρ : Operand → Value) (x y : Operand) (ty : TypeId) {v : Value} {g n k : Nat} {L : Nat → List UInt8} {l : List UInt8} (h : Ims w v g n L) (hx : ρ x = .pointer (some ⟨g, k * 64, none⟩)) (hy : ρ y = imV l) (hk : k < n) :
    ∃ w', (execOp ρ (mkOp (.store 59 x y) ty)).run Try.prog w = .ok .skip w' ∧ Ims w' v g n (updF L k l) ∧ Sam (· = g) w w' := by
  obtain ⟨c, f, h1, h2, h3, hr, h4⟩ := h
  obtain ⟨w', e1, e2, e3, e4⟩ := exec_store_arr (P := Try.prog) ρ 59 x y ty hr hx hy isImg (by omega) (fun j _ => rfl)
  refine ⟨w', e1, ⟨c, _, h1, h2, h3, e2, fun j hj => ?_⟩, Sam.of_grown e3 fun b hb => (Option.some.inj hb).symm⟩
  unfold putN imC updF
  by_cases e : k * 64 ≤ j ∧ j < k * 64 + 64
  · rw [if_pos e, if_pos (by omega), show j % 64 = j - k * 64 by omega]
  · rw [if_neg e, if_neg (by omega), h4 j hj]
    rfl
/-- The blocks as a flush under way has them: those still to come as they were. -/
def flL (good : Nat → List UInt8) (pend : Nat → List (List UInt8)) (left : Nat → Bool) : Nat → List UInt8 := fun k => if left k = true then good k else if (pend k).length = 0 then good k else (pend k).getD ((pend k).length - 1) []
theorem flL_start {good : Nat → List UInt8} {pend : Nat → List (List UInt8)} {pv : Nat → Value} {left : Nat → Bool} {n : Nat} (h : ∀ k, k < n → (left k = true ↔ pv k ≠ nilV)) (hp : ∀ k, k < n → pend k ≠ [] → pv k ≠ nilV) : ∀ k, k < n → good k = flL good pend left k := fun k hk => by
  unfold flL
  by_cases e : left k = true
  · rw [if_pos e]
  · have : pend k = [] := Classical.byContradiction fun hn => e ((h k hk).2 (hp k hk hn))
    rw [if_neg e, this]
    rfl
theorem flL_step {good : Nat → List UInt8} {pend : Nat → List (List UInt8)} {left : Nat → Bool} {k : Nat} (hp : ¬ (pend k).length = 0) : ∀ j, updF (flL good pend left) k ((pend k).getD ((pend k).length - 1) []) j = flL good pend (fun j => left j && !(j == k)) j := fun j => by
  unfold updF flL
  by_cases e : j = k
  · subst e
    simp [hp]
  · have e2 : (j == k) = false := by simp [e]
    simp [e, e2]
theorem flL_end {good : Nat → List UInt8} {pend : Nat → List (List UInt8)} {left : Nat → Bool} {n : Nat} (h : ∀ k, k < n → left k = false) : ∀ k, k < n → flL good pend left k = if (pend k).length = 0 then good k else (pend k).getD ((pend k).length - 1) [] := fun k hk => by
  unfold flL
  rw [h k hk]
  simp
theorem BkM.good {y g b n N : Nat} {vg : Value} {pv : Nat → Value} {pb : Nat → Nat} {w w' : World} {good L : Nat → List UInt8} {pend : Nat → List (List UInt8)} (h : BkM y g b vg pv pb w N n good pend) (q : Ims w' vg g n L) (k : Sam (· = g) w w') : BkM y g b vg pv pb w' N n L pend :=
  ⟨h.n1, h.nn, q, h.mp.sam k (fun e => h.gb e.symm), fun i hi => (h.pd i hi).imp id fun ⟨e1, e2⟩ => ⟨e1, e2.sam k (h.py i hi e1).2.1⟩, h.yg, h.yb, h.gb, h.py, h.pp⟩
theorem BkM.pvn {y g b n N : Nat} {vg : Value} {pv : Nat → Value} {pb : Nat → Nat} {w : World} {good : Nat → List UInt8} {pend : Nat → List (List UInt8)} (h : BkM y g b vg pv pb w N n good pend) (k : Nat) (hk : k < n) : pend k ≠ [] ↔ pv k ≠ nilV := by
  rcases h.pd k hk with ⟨e1, e2⟩ | ⟨e1, e2⟩
  · exact ⟨fun h => absurd e1 h, fun h => absurd e2 h⟩
  · exact ⟨fun _ e => (by rw [e] at e2; obtain ⟨_, e3, _⟩ := e2.shape; cases e3), fun _ => e1⟩
theorem flush_step {y g b n N c r k cnt : Nat} {pv : Nat → Value} {pb : Nat → Nat} {w3 wf w5 : World} {good : Nat → List UInt8} {pend : Nat → List (List UInt8)} {left : Nat → Bool} (hm : BkM y g b (.slice (some ⟨g, 0, none⟩) n c) pv pb w3 N n (flL good pend left) pend) (hr : Rg w3 b r N n pv (fun j => left j && !(j == k)) cnt) (he : Sam (fun _ => False) w3 wf)
    (u1 : Ims w5 (.slice (some ⟨g, 0, none⟩) n c) g n (updF (flL good pend left) k ((pend k).getD ((pend k).length - 1) []))) (u2 : Sam (· = g) wf w5) (hp : ¬ (pend k).length = 0) (hrn : ¬ ownB y g b n pb pend r) :
    Rg w5 b r N n pv (fun j => left j && !(j == k)) cnt ∧ BkM y g b (.slice (some ⟨g, 0, none⟩) n c) pv pb w5 N n (flL good pend fun j => left j && !(j == k)) pend :=
  ⟨(hr.sam he (fun h => h) fun h => h).sam u2 (fun e => hm.gb e.symm) fun e => hrn (.inr (.inl e)), (hm.sam he fun _ h => h.elim).good (u1.congr fun i _ => flL_step hp i) u2⟩
theorem flush_end {T D : Nat → Prop} {y g b n N c r b2 : Nat} {pv : Nat → Value} {pb : Nat → Nat} {w w2 wr w4 w5 : World} {good : Nat → List UInt8} {pend : Nat → List (List UInt8)} {left : Nat → Bool} {S : DS} {rc : Bool} {rl : Int} (hm4 : BkM y g b (.slice (some ⟨g, 0, none⟩) n c) pv pb w4 N n (flL good pend left) pend) (hdn : ∀ k, k < n → left k = false) (hmb : MpAt w4 b2 0 n fun _ => nilV)
    (lb : wr.heap.size ≤ b2) (hyl : y < w2.heap.size) (hgl : g < w2.heap.size) (r_y : w5.rowIs y 62 6 (devF (.slice (some ⟨g, 0, none⟩) n c) (.map (some b2)) (opD S).ops rc rl (opD S).off)) (hsm : Sam (· = y) w w2) (hsr : Sam (fun x => x = g ∨ x = r) w2 wr) (hrr : r = w2.heap.size) (hs4 : Sam (fun _ => False) wr w4) (hs5 : Sam (· = y) w4 w5)
    (hn : n = (opD S).n) (hpe : pend = (opD S).pend) (hgo : good = (opD S).good) (hs1 : (opD S).n = S.n) (hlr : lrel (opD S) rc rl) (hT : ∀ x, T x ↔ ownB y g b n pb pend x) (hD : ∀ x, D x ↔ ownB y g b n pb pend x) : BkNew BkAt T D w y (flI (opD S) S.n) w5 := by
  have l1 := hsr.size
  have l0 := hsm.size
  have yb2 : y ≠ b2 := by omega
  have gb2 : g ≠ b2 := by omega
  have hnn : n = S.n := hn.trans hs1
  have ty : T y := (hT y).2 (.inl rfl)
  have tg : T g := (hT g).2 (.inr (.inl rfl))
  have hfn : (flI (opD S) S.n).n = n := hn.symm
  have fp : ∀ k, k < n → (flI (opD S) S.n).pend k = [] := fun k hk => if_pos (by omega)
  have fg : ∀ k, k < n → flL good pend left k = (flI (opD S) S.n).good k := fun k hk => by
    rw [flL_end hdn k hk, hpe, hgo]
    have e : k < S.n := by omega
    show _ = if k < S.n then nowS (opD S) k else _
    rw [if_pos e]
    rfl
  have own : ∀ (X : Nat → Prop), (∀ x, X x ↔ ownB y g b n pb pend x) → ∀ x, ownB y g b2 (flI (opD S) S.n).n pb (flI (opD S) S.n).pend x → X x ∨ w.heap.size ≤ x := by
    rintro X hX x (h | h | h | ⟨k, hk, hp, _⟩)
    · exact .inl ((hX x).2 (.inl h))
    · exact .inl ((hX x).2 (.inr (.inl h)))
    · right; omega
    · exact absurd (fp k (by rw [← hfn]; exact hk)) hp
  refine ⟨_, _, ⟨g, b2, c, fun _ => nilV, pb, rc, rl, 0, ?_, ?_, Nat.zero_le _, hlr, fun x => Iff.rfl, fun x => Iff.rfl⟩, ?_, own T hT, own D hD⟩
  · rw [hfn]
    exact r_y
  · rw [hfn]
    exact ⟨hm4.n1, hm4.nn, (hm4.lg.sam hs5 fun e => hm4.yg e.symm).congr fg, hmb.sam hs5 fun e => yb2 e.symm, fun k hk => .inl ⟨fp k hk, rfl⟩, hm4.yg, yb2, gb2, fun k hk hp => absurd (fp k hk) hp, fun j k hj hk hp => absurd (fp j hj) hp⟩
  · refine (hsm.one ty).trans (Sam.trans (b := wr) (hsr.mono fun x hx hxx => ?_) ((hs4.mono fun _ _ h => h.elim).trans (hs5.one ty)))
    rcases hxx with rfl | rfl
    · exact tg
    · omega
set_option maxHeartbeats 4000000 in
set_option maxRecDepth 20000 in
theorem flush_off (T D : Nat → Prop) (w : World) (y : Nat) (S : DS) (B : Nat) (h : BkAt T D w y S) (hs : okD S B) (hB : B ≤ 100000) (ho : opOk S = false) : Calls Try.prog 27 #[.pointer (some ⟨y, 0, none⟩)] w fun e w' => e = .returned (.int .i64 10) ∧ BkAt T D w' y (opD S) ∧ Sam (· = y) w w' := by
  have HB := Lib.hid h
  have HS := Lib.hid hs
  have HBB := Lib.hid hB
  have HO := Lib.hid ho
  clear h hs hB ho
  go_enter Try.func27, Try.ntmps27
  go_wp2_with (first
    | (have hgo := HBB; clear hgo
       go_at_call 44
       refine (bk_begin T D _ y S B HB.out HS.out HBB.out).mono ?_
       rintro e w2 ⟨rfl, hb, hsm⟩
       rw [if_neg (by rw [HO.out]; decide)]
       have HR := Lib.hid hb
       have HSM := Lib.hid hsm
       clear hb hsm HBB))
  go_ret
  exact ⟨rfl, HR.out.weak, HSM.out⟩
set_option maxHeartbeats 4000000 in
set_option maxRecDepth 20000 in
theorem flush_ok (T D : Nat → Prop) (w : World) (y : Nat) (S : DS) (B : Nat) (h : BkAt T D w y S) (hs : okD S B) (hB : B ≤ 100000) (ho : opOk S = true) : Calls Try.prog 27 #[.pointer (some ⟨y, 0, none⟩)] w fun e w' => e = .returned (.int .i64 0) ∧ BkNew BkAt T D w y (flI (opD S) S.n) w' := by
  have HB := Lib.hid h
  have HS := Lib.hid hs
  have HBB := Lib.hid hB
  have HB9 := Lib.hid hB
  have HO := Lib.hid ho
  have HTY := Lib.hid h.ty
  clear h hs hB ho
  have HS1 := Lib.hid (opD_same S)
  go_enter Try.func27, Try.ntmps27
  go_wp2_with (first
    | (have hgo := HBB; clear hgo
       go_at_call 44
       refine (bk_begin T D _ y S B HB.out HS.out HBB.out).mono ?_
       rintro e w2 ⟨rfl, hb, hsm⟩
       rw [if_pos HO.out]
       obtain ⟨g, b, c, pv, pb, rc, rl, N, r_y, hm, hN, hlr, hT, hD⟩ := hb
       obtain ⟨n, hn⟩ : ∃ n, n = (opD S).n := ⟨_, rfl⟩
       obtain ⟨pend, hpe⟩ : ∃ pend, pend = (opD S).pend := ⟨_, rfl⟩
       obtain ⟨good, hgo⟩ : ∃ good, good = (opD S).good := ⟨_, rfl⟩
       rw [← hn, ← hpe, ← hgo] at hm
       rw [← hn] at r_y
       rw [← hn, ← hpe] at hT hD
       have HM := Lib.hid hm
       have HT := Lib.hid hT
       have HD := Lib.hid hD
       have HLR := Lib.hid hlr
       have HNN := Lib.hid hN
       have HN := Lib.hid hn
       have HPE := Lib.hid hpe
       have HGO := Lib.hid hgo
       have HSM := Lib.hid hsm
       have HYL := Lib.hid r_y.lt
       have HOW := Lib.hid (hm.lt r_y.lt)
       clear hm hT hD hlr hN hn hpe hgo hsm HBB)
    | (refine wpList_loadG 60 (.tmp 13) rfl rfl (.map (some b)) r_y rfl (by omega) rfl (by kernel_rfl) ?_)
    | (refine wrangeM rfl (.tmp 14) rfl HM.out.mp rfl ?_
       intro w3 left0 cnt0 hrg hle _ kk
       have HRG := Lib.hid hrg
       have HLE := Lib.hid hle
       have HR3 : Hid (Sam (fun x => x = g ∨ x = w2.heap.size) w2 w3) := Lib.hid (Sam.of_below kk)
       have HM3 := Lib.hid (HM.out.bel kk)
       have r3 := zrb r_y kk
       clear hrg hle kk))
  go_frame
  obtain ⟨r, hr⟩ : ∃ r, r = w2.heap.size := ⟨_, rfl⟩
  rw [← hr] at HRG HR3 ⊢
  have HRR := Lib.hid hr
  have HRN : Hid (¬ ownB y g b n pb pend r) := Lib.hid fun h => by have := HOW.out r h; omega
  have HPL : Hid (∀ k, k < n → (pend k).length < 1000000000) := Lib.hid fun k hk => by
    rw [HPE.out, HS1.out.2.2.1]
    have := HS.out.cnt k
    have := HB9.out
    omega
  clear hr r_y
  go_loopw [4] (fun _ wr => ∃ left cnt, Rg wr b r N n pv left cnt ∧ BkM y g b (.slice (some ⟨g, 0, none⟩) n c) pv pb wr N n (flL good pend left) pend ∧ wr.rowIs y 62 6 (devF (.slice (some ⟨g, 0, none⟩) n c) (.map (some b)) (opD S).ops rc rl (opD S).off) ∧ Sam (fun x => x = g ∨ x = r) w2 wr)
    (fun _ wr => wr.rangeLeft b r)
  case atStart =>
    exact ⟨left0, cnt0, HRG.out, HM3.out.good (HM3.out.lg.congr (flL_start HLE.out fun k hk => (HM3.out.pvn k hk).1)) (Sam.refl _ _), r3, HR3.out⟩
  case round =>
    clear HRG HLE HR3 HM3 r3
    obtain ⟨left, cnt, hrg, hmr, r_y, hsr⟩ := hrel
    have HRG := Lib.hid hrg
    have HMR := Lib.hid hmr
    have HSR := Lib.hid hsr
    clear hrg hmr hsr
    go_wp2_with (first
      | (refine wnextM rfl (.tmp 15) rfl HRG.out rfl ?_ ?_))
    · intro hdone
      have HDN := Lib.hid hdone
      have HST1 := Lib.hid True.intro
      have HST2 := Lib.hid True.intro
      clear hdone
      go_wp2_with (first
        | (have hgo := HST1; clear hgo
           refine wmakeM rfl none rfl (fun _ h => by cases h) n ?_
           intro b2 w4 lb m_b kk
           have L_b := Lib.hid lb
           have HMB := Lib.hid m_b
           have HM4 := Lib.hid (HMR.out.bel kk)
           replace r_y := zrb r_y kk
           have HS4 : Hid (Sam (fun _ => False) wr w4) := Lib.hid (Sam.of_below kk)
           clear kk lb m_b HST1)
        | (have hgo := HST2; clear hgo
           refine wpList_storeG 60 (.tmp 35) (.tmp 33) rfl rfl (devF (.slice (some ⟨g, 0, none⟩) n c) (.map (some b2)) (opD S).ops rc rl (opD S).off) r_y rfl rfl (by kernel_rfl) rfl rfl (by omega) (six rfl rfl rfl rfl rfl rfl) ?_
           intro w5 q_n s_5
           replace r_y := q_n
           have HS5 := Lib.hid s_5
           clear HST2 q_n s_5))
      go_ret
      exact ⟨rfl, flush_end HM4.out HDN.out HMB.out L_b.out HYL.out HM.out.lg.lt r_y HSM.out HSR.out HRR.out HS4.out HS5.out HN.out HPE.out HGO.out HS1.out.1 HLR.out HT.out HD.out⟩
    · intro k w3 cnt' hk hl hp hrg3 hlt hs3 hen
      have HK := Lib.hid hk
      obtain ⟨ak, ck, hck⟩ := HMR.out.look k hk
      rw [hck] at hen
      have HC := Lib.hid hck
      have HP0 : Hid (¬ (pend k).length = 0) := Lib.hid fun e => (HMR.out.pvn k HK.out).2 hp (List.eq_nil_of_length_eq_zero e)
      have HM3 := Lib.hid (HMR.out.sam hs3 fun x hx => .inr (by rw [hx]; exact HRN.out))
      have HR3 := Lib.hid hrg3
      have HL3 := Lib.hid hlt
      have HS3 := Lib.hid hs3
      have r3 := Sam.row r_y hs3 (fun e => HRN.out (.inl e.symm))
      clear hk hck hp hrg3 hlt hs3 r_y hl
      go_wp2
      have HE : Sam (fun _ => False) w3 w3.drew := (Sam.refl _ _).drew
      refine wp_region_linf (Sam (fun _ => False)) (fun w => Sam.refl _ w) (fun _ _ _ h k => h.trans k) 11 20 (.rd 0 (.rd 1 (.rd 2 (.rd 3 (.rd 4 (.rd 5 (.rd 6 (.rd 7 (.rd 8 (.wr 9 (.rd 10 .done))))))))))) (by kernel_rfl) (by kernel_rfl) (by decide) (by kernel_rfl) (fun d _ _ _ _ h => by cases d <;> exact h) ?_
      refine linf_pure 21 _ _ (.pointer (some ⟨y, 0, none⟩)) rfl rfl rfl rfl rfl (fun wx hx => by unfold mkOp; go_simp; all_goals (with_reducible rfl)) ?_
      simp only [Act.put, zA, zB, zC]
      refine linf_pure 22 _ _ (.pointer (some ⟨y, 0, none⟩)) rfl rfl rfl rfl rfl (fun wx hx => by unfold mkOp; go_simp; all_goals (with_reducible rfl)) ?_
      simp only [Act.put, zA, zB, zC]
      refine linf_pure 23 _ _ (.pointer (some ⟨y, 0, none⟩)) rfl rfl rfl rfl rfl (fun wx hx => by unfold mkOp; go_simp; all_goals (with_reducible rfl)) ?_
      simp only [Act.put, zA, zB, zC]
      refine linf_pure 24 _ _ (.slice (some ⟨g, 0, none⟩) n c) rfl rfl rfl rfl rfl (fun wx hx => exec_loadG _ _ _ _ _ r3 (HE.trans hx) (fun h => h) rfl (by omega) rfl (by kernel_rfl)) ?_
      simp only [Act.put, zA, zB, zC]
      refine linf_pure 25 _ _ (.int .i64 (k : Int)) rfl rfl rfl rfl rfl (fun wx hx => by unfold mkOp; go_simp; all_goals (with_reducible rfl)) ?_
      simp only [Act.put, zA, zB, zC]
      refine linf_pure 26 _ _ (.pointer (some ⟨y, 0, none⟩)) rfl rfl rfl rfl rfl (fun wx hx => by unfold mkOp; go_simp; all_goals (with_reducible rfl)) ?_
      simp only [Act.put, zA, zB, zC]
      refine linf_pure 27 _ _ (.int .i64 (k : Int)) rfl rfl rfl rfl rfl (fun wx hx => by unfold mkOp; go_simp; all_goals (with_reducible rfl)) ?_
      simp only [Act.put, zA, zB, zC]
      refine linf_pure 28 _ _ (.slice ak (pend k).length ck) rfl rfl rfl rfl rfl (fun wx hx => by unfold mkOp; go_simp; all_goals (with_reducible rfl)) ?_
      simp only [Act.put, zA, zB, zC]
      refine linf_pure 29 _ _ (.int .i64 ((pend k).length : Int)) rfl rfl rfl rfl rfl (fun wx hx => by unfold mkOp; go_simp; all_goals (with_reducible rfl)) ?_
      simp only [Act.put, zA, zB, zC]
      refine linf_fn 30 45 _ _ _ (behind_any y g b n c (opD S).ops rc rl (opD S).off _ (Sam.row r3 HE (fun h => h)) (HM3.out.sam HE fun _ h => h.elim) k (pend k).length HK.out (Nat.le_refl _) (HPL.out k HK.out)) rfl rfl rfl rfl Try.func45 (by kernel_rfl) (by kernel_rfl) (by go_simp) ?_
      rintro e wf30 ⟨rfl, kk⟩
      refine ⟨_, rfl, Sam.of_below kk, ?_⟩
      rw [if_neg HP0.out]
      replace HE : Sam (fun _ => False) w3 wf30 := HE.trans (Sam.of_below kk)
      clear kk
      simp only [Act.put, zA, zB, zC]
      refine linf_pure 31 _ _ (.pointer (some ⟨g, k * 64, none⟩)) rfl rfl rfl rfl rfl (fun wx hx => exec_ixI _ _ _ _ rfl rfl HK.out) ?_
      simp only [Act.put, zA, zB, zC]
      refine linf_upd _ _ rfl rfl rfl rfl rfl _ (exec_storeI _ _ _ _ (HM3.out.lg.sam HE fun h => h) rfl rfl HK.out) ?_
      rintro w5 ⟨u1, u2⟩
      have H5 := Lib.hid (flush_step HM3.out HR3.out HE u1 u2 HP0.out HRN.out)
      have HS5 : Hid (Sam (· = g) w3 w5) := Lib.hid ((HE.mono fun _ _ h => h.elim).trans u2)
      have r5 := Sam.row (Sam.row r3 HE fun h => h) u2 (HM3.out.yg)
      clear u1 u2 HE hen
      go_wp2
      go_roundw
      case rel => exact ⟨_, cnt', H5.out.1, H5.out.2, r5, HSR.out.trans ((HS3.out.mono fun x _ e => .inr e).trans (HS5.out.mono fun x _ e => .inl e))⟩
      case measure => rw [H5.out.1.left_eq, HRG.out.left_eq]; exact HL3.out
end Go.Proofs.Ytefabimolfcllaa

/- The program's device: Clone, Copy. -/
namespace Go.Proofs.Ytefabimolfcllaa
open Go.RowKit Go.Deep
open Go.Maps (Keyed has IsMap)
set_option linter.unusedSimpArgs false
set_option linter.unusedVariables false

theorem wappI {ops : Array Oper} {rest : List Oper} {o : Oper} {a : Act} {w : World} {Q : Exit → Act → World → Prop} (hgd : o.guard = none) (s x : Operand) (hop : o.op = .call { callee := .builtin .append, args := #[s, x], argTypes := #[56, 56] })
    {v vb : Value} {n m gb : Nat} {LL M : Nat → List UInt8} (hown : (∃ g, Ims w v g n LL) ∨ (n = 0 ∧ (v = .slice none 0 0 ∨ ∃ g, w.ownsRow g 59 64 v 0 []))) (hb : Ims w vb gb m M) (h0 : 0 < m) (hs : a.eval s = v) (hx : a.eval x = vb) (hlen : n + m ≤ 1000000)
    (h : ∀ v' w1 g', Ims w1 v' g' (n + m) (fun i => if i < n then LL i else M (i - n)) → Sam (fun b => v.ownBlock = some b) w w1 → (v.ownBlock = some g' ∨ w.heap.size ≤ g') → wpList Try.prog ops Q rest (a.put o.dst v') w1) : wpList Try.prog ops Q (o :: rest) a w := by
  obtain ⟨v', w1, g', hr, p1, p2, p3⟩ := exec_appI a.eval s x o.type v vb n m gb LL M hown hb h0 hs hx hlen
  exact wval hgd _ hop v' hr (h v' w1 g' p1 p2 p3)
theorem wrowI0 {ops : Array Oper} {rest : List Oper} {o : Oper} {a : Act} {w : World} {Q : Exit → Act → World → Prop} (hgd : o.guard = none) (hop : o.op = .buildSlice 56 0 #[])
    (h : ∀ b w', w.heap.size ≤ b → w'.ownsRow b 59 64 (.slice (some ⟨b, 0, none⟩) 0 0) 0 [] → Below w.heap.size w w' → wpList Try.prog ops Q rest (a.put o.dst (.slice (some ⟨b, 0, none⟩) 0 0)) w') : wpList Try.prog ops Q (o :: rest) a w := by
  have hr : (execOp a.eval (mkOp (.buildSlice 56 0 #[]) o.type)).run Try.prog w = .ok (.value (.slice (some ⟨w.heap.size, 0, none⟩) 0 0)) (w.alloc (.cells #[] 59)) := by unfold mkOp; go_simp
  exact wval hgd _ hop _ hr (h _ _ (Nat.le_refl _) (World.ownsRow_lit w #[] 0 (Nat.le_refl _) (by unfold maxLen; omega) rfl) ((Below.refl _ _).alloc (Nat.le_refl _) _))
set_option maxHeartbeats 4000000 in
set_option maxRecDepth 20000 in
theorem clone_any (g n c : Nat) (w : World) (L : Nat → List UInt8) (h : Ims w (.slice (some ⟨g, 0, none⟩) n c) g n L) (h1 : 1 ≤ n) (h2 : n ≤ 200000) : Calls Try.prog 29 #[.slice (some ⟨g, 0, none⟩) n c] w fun e w' => ∃ g2 c2, e = .returned (.slice (some ⟨g2, 0, none⟩) n c2) ∧ w.heap.size ≤ g2 ∧ Ims w' (.slice (some ⟨g2, 0, none⟩) n c2) g2 n L ∧ Below w.heap.size w w' := by
  have Bw0 := Below.refl w.heap.size w
  have HI := Lib.hid h
  have H1 := Lib.hid h1
  have H2 := Lib.hid h2
  have hnn := run_eql_slice_nil (P := Try.prog) w 56 59 (some ⟨g, 0, none⟩) n c Try.underlying56
  clear h h1 h2
  go_enter Try.func29, Try.ntmps29
  go_wp2_with (first
    | (have hgo := Bw0; clear hgo
       refine wrowI0 rfl rfl ?_
       intro b w1 lb o_b kk
       have HI1 := Lib.hid (HI.out.bel kk)
       have HOB := Lib.hid o_b
       have L_b := Lib.hid lb
       have Bw1 := kk
       clear Bw0 kk lb o_b)
    | (have hgo := Bw1; clear hgo
       refine wappI (LL := L) rfl (.tmp 5) (.tmp 6) rfl (.inr ⟨rfl, .inr ⟨_, HOB.out⟩⟩) HI1.out (by have := H1.out; omega) rfl rfl (by have := H2.out; omega) ?_
       intro v2 w2 g2 p1 p2 p3
       rw [Nat.zero_add] at p1
       obtain ⟨c2, rfl, _, _⟩ := p1.shape
       have HP := Lib.hid p1
       have HL : Hid (w.heap.size ≤ g2) := Lib.hid (p3.elim (fun h => by have e : b = g2 := Option.some.inj h; have := L_b.out; omega) fun h => Nat.le_trans Bw1.size h)
       have Bw2 : Below w.heap.size w w2 := Bw1.trans (p2.below (fun x hx => by have e : b = x := Option.some.inj hx; have := L_b.out; omega) Bw1.size)
       clear Bw1 p1 p2 p3))
  go_ret
  exact ⟨g2, c2, rfl, HL.out, HP.out.congr fun i _ => by rw [if_neg (Nat.not_lt_zero i), Nat.sub_zero], Bw2⟩
end Go.Proofs.Ytefabimolfcllaa

/- The library's contracts for a map's keys, sorted, at this program. -/
namespace Go.Proofs.Ytefabimolfcllaa
open Go.RowKit Go.Maps Go.Sort Go.Shelf Go.Deep
set_option linter.unusedSimpArgs false
set_option linter.unusedVariables false

def keysA_ren : Go.Shelf.Ren := ⟨fun | 7 => 31 | 10 => 48 | n => n, fun | 23 => 60 | 26 => 3 | 3 => 56 | 28 => 65 | 0 => 0 | 27 => 64 | 33 => 81 | 4 => 4 | n => n, fun | n => n⟩
theorem keysA : Go.Proofs.SlLaysZI.n7 Try.prog keysA_ren := {
  mixed := by kernel_rfl
  f7 := ⟨Try.f31.name, by decide, Try.func31.trans (congrArg some (by kernel_rfl))⟩
  f10 := ⟨Try.f48.name, by decide, Try.func48.trans (congrArg some (by kernel_rfl))⟩
  t0 := Try.underlying0
  a0 := Try.isAgg0
  z0 := Try.sizeOf0
  v0 := Try.zeroValue0
  t4 := Try.underlying4
  a4 := Try.isAgg4
  z4 := Try.sizeOf4
  v4 := Try.zeroValue4
  t23 := Try.underlying60
  a23 := Try.isAgg60
  z23 := Try.sizeOf60
  v23 := Try.zeroValue60
  t26 := Try.underlying3
  a26 := Try.isAgg3
  z26 := Try.sizeOf3
  v26 := Try.zeroValue3
  t27 := Try.underlying64
  a27 := Try.isAgg64
  z27 := Try.sizeOf64
  v27 := Try.zeroValue64
  t28 := Try.underlying65
  a28 := Try.isAgg65
  z28 := Try.sizeOf65
  v28 := Try.zeroValue65
  t33 := Try.underlying81
  a33 := Try.isAgg81
  z33 := Try.sizeOf81
  v33 := Try.zeroValue81 }
def sortedA_ren : Go.Shelf.Ren := ⟨fun | 6 => 30 | 8 => 46 | 9 => 47 | 11 => 57 | 13 => 59 | 12 => 58 | 23 => 73 | 24 => 74 | 14 => 64 | 15 => 65 | 16 => 66 | 17 => 67 | 18 => 68 | 19 => 69 | 20 => 70 | 21 => 71 | 22 => 72 | 25 => 75 | 26 => 76 | 27 => 77 | 28 => 78 | 29 => 79 | 30 => 80 | 31 => 81 | n => n, fun | 26 => 3 | 28 => 65 | 24 => 22 | 0 => 0 | 3 => 3 | 37 => 92 | 48 => 105 | 50 => 82 | 4 => 4 | 40 => 98 | 39 => 97 | 45 => 102 | 5 => 5 | 9 => 9 | 51 => 107 | 55 => 111 | 57 => 113 | 58 => 114 | 33 => 81 | n => n, fun | n => n⟩
theorem sortedA : Go.Proofs.SlLaysZI.n6 Try.prog sortedA_ren := {
  mixed := by kernel_rfl
  f6 := ⟨Try.f30.name, by decide, Try.func30.trans (congrArg some (by kernel_rfl))⟩
  f8 := ⟨Try.f46.name, by decide, Try.func46.trans (congrArg some (by kernel_rfl))⟩
  f11 := ⟨Try.f57.name, by decide, Try.func57.trans (congrArg some (by kernel_rfl))⟩
  t0 := Try.underlying0
  a0 := Try.isAgg0
  z0 := Try.sizeOf0
  v0 := Try.zeroValue0
  t24 := Try.underlying22
  a24 := Try.isAgg22
  z24 := Try.sizeOf22
  v24 := Try.zeroValue22
  t26 := Try.underlying3
  a26 := Try.isAgg3
  z26 := Try.sizeOf3
  v26 := Try.zeroValue3
  t28 := Try.underlying65
  a28 := Try.isAgg65
  z28 := Try.sizeOf65
  v28 := Try.zeroValue65
  i26 := by kernel_rfl }
def sortA_ren : Go.Shelf.Ren := ⟨fun | 5 => 47 | 8 => 59 | 7 => 58 | 19 => 73 | 20 => 74 | 10 => 64 | 11 => 65 | 12 => 66 | 13 => 67 | 14 => 68 | 15 => 69 | 16 => 70 | 17 => 71 | 18 => 72 | 30 => 75 | 31 => 76 | 32 => 77 | 33 => 78 | 34 => 79 | 35 => 80 | 40 => 81 | n => n, fun | 23 => 22 | 25 => 3 | 3 => 3 | 32 => 92 | 22 => 22 | 0 => 0 | 44 => 105 | 46 => 82 | 4 => 4 | 36 => 98 | 35 => 97 | 41 => 102 | 5 => 5 | 9 => 9 | 53 => 107 | 57 => 111 | 63 => 113 | 64 => 114 | n => n, fun | n => n⟩
theorem sortA : Go.Proofs.SlLaysM.n5 Try.prog sortA_ren := {
  mixed := by kernel_rfl
  f5 := ⟨Try.f47.name, by decide, Try.func47.trans (congrArg some (by kernel_rfl))⟩
  f7 := ⟨Try.f58.name, by decide, Try.func58.trans (congrArg some (by kernel_rfl))⟩
  f8 := Try.func59.trans (congrArg some (by kernel_rfl))
  f10 := ⟨Try.f64.name, by decide, Try.func64.trans (congrArg some (by kernel_rfl))⟩
  f11 := ⟨Try.f65.name, by decide, Try.func65.trans (congrArg some (by kernel_rfl))⟩
  f12 := ⟨Try.f66.name, by decide, Try.func66.trans (congrArg some (by kernel_rfl))⟩
  f13 := ⟨Try.f67.name, by decide, Try.func67.trans (congrArg some (by kernel_rfl))⟩
  f14 := ⟨Try.f68.name, by decide, Try.func68.trans (congrArg some (by kernel_rfl))⟩
  f15 := ⟨Try.f69.name, by decide, Try.func69.trans (congrArg some (by kernel_rfl))⟩
  f16 := ⟨Try.f70.name, by decide, Try.func70.trans (congrArg some (by kernel_rfl))⟩
  f17 := ⟨Try.f71.name, by decide, Try.func71.trans (congrArg some (by kernel_rfl))⟩
  f18 := ⟨Try.f72.name, by decide, Try.func72.trans (congrArg some (by kernel_rfl))⟩
  f19 := Try.func73.trans (congrArg some (by kernel_rfl))
  f20 := Try.func74.trans (congrArg some (by kernel_rfl))
  f30 := ⟨Try.f75.name, by decide, Try.func75.trans (congrArg some (by kernel_rfl))⟩
  f31 := Try.func76.trans (congrArg some (by kernel_rfl))
  f32 := Try.func77.trans (congrArg some (by kernel_rfl))
  f33 := ⟨Try.f78.name, by decide, Try.func78.trans (congrArg some (by kernel_rfl))⟩
  f34 := ⟨Try.f79.name, by decide, Try.func79.trans (congrArg some (by kernel_rfl))⟩
  f35 := ⟨Try.f80.name, by decide, Try.func80.trans (congrArg some (by kernel_rfl))⟩
  f40 := ⟨Try.f81.name, by decide, Try.func81.trans (congrArg some (by kernel_rfl))⟩
  t0 := Try.underlying0
  a0 := Try.isAgg0
  z0 := Try.sizeOf0
  v0 := Try.zeroValue0
  t3 := Try.underlying3
  a3 := Try.isAgg3
  z3 := Try.sizeOf3
  v3 := Try.zeroValue3
  t4 := Try.underlying4
  a4 := Try.isAgg4
  z4 := Try.sizeOf4
  v4 := Try.zeroValue4
  t5 := Try.underlying5
  a5 := Try.isAgg5
  z5 := Try.sizeOf5
  v5 := Try.zeroValue5
  t9 := Try.underlying9
  a9 := Try.isAgg9
  z9 := Try.sizeOf9
  v9 := Try.zeroValue9
  t22 := Try.underlying22
  a22 := Try.isAgg22
  z22 := Try.sizeOf22
  v22 := Try.zeroValue22
  t23 := Try.underlying22
  a23 := Try.isAgg22
  z23 := Try.sizeOf22
  v23 := Try.zeroValue22
  t25 := Try.underlying3
  a25 := Try.isAgg3
  z25 := Try.sizeOf3
  v25 := Try.zeroValue3
  t32 := Try.underlying92
  a32 := Try.isAgg92
  z32 := Try.sizeOf92
  v32 := Try.zeroValue92
  t35 := Try.underlying97
  a35 := Try.isAgg97
  z35 := Try.sizeOf97
  v35 := Try.zeroValue97
  t36 := Try.underlying98
  a36 := Try.isAgg98
  z36 := Try.sizeOf98
  v36 := Try.zeroValue98
  t41 := Try.underlying102
  a41 := Try.isAgg102
  z41 := Try.sizeOf102
  v41 := Try.zeroValue102
  t44 := Try.underlying105
  a44 := Try.isAgg105
  z44 := Try.sizeOf105
  v44 := Try.zeroValue105
  t46 := Try.underlying82
  a46 := Try.isAgg82
  z46 := Try.sizeOf82
  v46 := Try.zeroValue82
  t53 := Try.underlying107
  a53 := Try.isAgg107
  z53 := Try.sizeOf107
  v53 := Try.zeroValue107
  t57 := Try.underlying111
  a57 := Try.isAgg111
  z57 := Try.sizeOf111
  v57 := Try.zeroValue111
  t63 := Try.underlying113
  a63 := Try.isAgg113
  z63 := Try.sizeOf113
  v63 := Try.zeroValue113
  t64 := Try.underlying114
  a64 := Try.isAgg114
  z64 := Try.sizeOf114
  v64 := Try.zeroValue114 }
theorem sorts_any (m : Nat) : AnyZI.SortsIn Try.prog sortedA_ren Fence.wide m :=
  ⟨fun blk off cap ss W hH hblk hsz => callsIn_wide.2 (AnyM.slices_Sort_int sortA blk off cap ss W hH hblk hsz),
   fun p cap W => callsIn_wide.2 (AnyM.slices_Sort_int_none sortA p cap W)⟩
theorem keys_any (mb : Option Nat) (w : World) : Calls Try.prog 31 #[.map mb] w fun e w' => e = .returned (.func (.func 48) #[] #[.pointer (some ⟨w.heap.size, 0, none⟩)]) ∧ w' = w.alloc (.cells #[.map mb] 60) := by
  refine (callsIn_wide (n := 6)).1 ?_
  exact AnyZI.keys_in keysA Fence.wide 6 trivial rfl mb w
/-- The numbers at which the map holds something, in their order. -/
def keysL (n : Nat) (P : Nat → Bool) : List Nat := (List.range n).filter P
theorem keysL_sorted (n : Nat) (P : Nat → Bool) : ((keysL n P).map fun k : Nat => (k : Int)).Pairwise fun a b => leI a b = true := by
  rw [List.pairwise_map]
  have h : (List.range n).Pairwise (· < ·) := List.pairwise_lt_range
  refine (h.filter _).imp fun {a b} hab => ?_
  simp only [leI, decide_eq_true_eq]
  omega
theorem keysL_perm {w : World} {b N n : Nat} {pv : Nat → Value} {D : DataW Value} {P : Nat → Bool} (hP : ∀ k, k < n → (P k = true ↔ pv k ≠ nilV)) (h : w.ownsMap Try.prog 3 RV b N D) (hD : MpD D n pv) : ((keysL n P).map fun k : Nat => (k : Int)).Perm (intKeys D) := by
  obtain ⟨es, rfl, h1, h2⟩ := h.entries keyedI
  have hall : ∀ p ∈ es, ∃ x, p.1 = .int .i64 x := fun p hp => by
    have hh : has (.map es) p.1 = true := by
      rw [has_eq, List.any_eq_true]
      exact ⟨p, hp, WideAt.sameKey_self (h2 p hp)⟩
    obtain ⟨k, _, e, _⟩ := hD.2.2.1 _ hh
    exact ⟨_, e⟩
  refine perm_intKeys h1 hall ?_ fun x => ?_
  · refine List.pairwise_map.2 (((List.nodup_range (n := n)).filter _).imp fun {a b} hab e => hab (Int.ofNat.inj e))
  · rw [List.mem_map]
    constructor
    · rintro ⟨k, hk, rfl⟩
      unfold keysL at hk
      rw [List.mem_filter, List.mem_range] at hk
      exact hD.2.2.2 k hk.1 ((hP k hk.1).1 hk.2)
    · intro hx
      obtain ⟨k, q1, q2, q3⟩ := hD.2.2.1 _ hx
      refine ⟨k, ?_, ((Lit.int.inj q2).2).symm⟩
      unfold keysL
      rw [List.mem_filter, List.mem_range]
      exact ⟨q1, (hP k q1).2 q3⟩
theorem mergeSort_keysL {w : World} {b N n : Nat} {pv : Nat → Value} {D : DataW Value} {P : Nat → Bool} {ss : List Int} (hP : ∀ k, k < n → (P k = true ↔ pv k ≠ nilV)) (h : w.ownsMap Try.prog 3 RV b N D) (hD : MpD D n pv) (hs : ss.Perm (intKeys D)) : ss.mergeSort (fun x y => decide (x ≤ y)) = (keysL n P).map fun k : Nat => (k : Int) := by
  have tr : ∀ a b c : Int, leI a b = true → leI b c = true → leI a c = true := fun a b c h1 h2 => by simp only [leI, decide_eq_true_eq] at *; exact Int.le_trans h1 h2
  have to : ∀ a b : Int, (leI a b || leI b a) = true := fun a b => by simp only [leI, Bool.or_eq_true, decide_eq_true_eq]; exact Int.le_total a b
  refine List.Perm.eq_of_pairwise (le := fun a b => leI a b = true) (fun a b _ _ h1 h2 => ?_) (List.pairwise_mergeSort tr to ss) (keysL_sorted n P) (((List.mergeSort_perm ss leI).trans hs).trans (keysL_perm hP h hD).symm)
  simp only [leI, decide_eq_true_eq] at h1 h2
  exact Int.le_antisymm h1 h2
set_option maxHeartbeats 1000000 in
theorem sortedKeys_any (w : World) (Bm b N n : Nat) (pv : Nat → Value) (P : Nat → Bool) (hP : ∀ k, k < n → (P k = true ↔ pv k ≠ nilV)) (hm : w.cell? ⟨Bm, 0, none⟩ = some (.map (some b))) (hB : Bm < w.heap.size) (h : MpAt w b N n pv) (hN : N ≤ 1000000) (hn : n ≤ 65536) : Calls Try.prog 30 #[.func (.func 48) #[] #[.pointer (some ⟨Bm, 0, none⟩)]] w fun e w' =>
    ∃ a cap, e = .returned (.slice a (keysL n P).length cap) ∧ Vs w' (.slice a (keysL n P).length cap) (keysL n P).length (fun i => .int .i64 (((keysL n P).getD i 0 : Nat) : Int)) ∧ (∀ x, a = some x → w.heap.size ≤ x.block) ∧ Below w.heap.size w w' := by
  refine (callsIn_wide (n := 6)).1 ?_
  obtain ⟨D, hown, hD⟩ := h
  have hsz := hown.size_le
  have hseq : SeqGives Fence.wide 3 Try.prog 48 #[.pointer (some ⟨Bm, 0, none⟩)] encZ (fun ss => ss.Perm (intKeys D)) (Maps.size D) w :=
    AnyZI.keys_gives (ρ := keysA_ren) { keysA with } Fence.wide _ trivial rfl (by omega) Bm b N D _ hB hm hown
  have cS := AnyZI.sorted_in sortedA Fence.wide 6 trivial trivial trivial trivial rfl (by omega) (sorts_any _) (enters_of Try.func47 (by kernel_rfl) rfl) 48 #[.pointer (some ⟨Bm, 0, none⟩)] trivial (enters_of Try.func48 (by kernel_rfl) rfl) _ _ (by unfold maxLen; omega) (by omega) _ hseq
  change CallsIn _ _ Try.prog 30 _ _ _ at cS
  refine cS.mono ?_
  rintro e w' ⟨v, ss, rfl, hS, hrow, hnil, hb⟩
  have hms := mergeSort_keysL hP hown hD hS
  rw [hms] at hrow
  have hlen : ss.length = (keysL n P).length := by
    have := congrArg List.length hms
    rw [List.length_mergeSort, List.length_map] at this
    exact this
  have hov : OwnV w' w.heap.size 3 v (((keysL n P).map fun k : Nat => (k : Int)).map encZ) := by
    unfold OwnV
    rw [List.length_map, List.length_map, ← hlen]
    exact hrow
  have hvs := hov.vs
  have hbl := hov.block
  rw [List.length_map, List.length_map] at hvs
  obtain ⟨a, cap, rfl, k1, k2, k3, k4⟩ := hvs
  refine ⟨a, cap, rfl, ⟨a, cap, rfl, k1, k2, k3, fun x hx i hi => ⟨(k4 x hx i hi).1, ?_⟩⟩, fun x hx => (hbl x.block (by rw [hx]; rfl)).1, hb⟩
  rw [(k4 x hx i hi).2]
  simp [hi]
end Go.Proofs.Ytefabimolfcllaa

/- The program's device: pick, crashed. -/
namespace Go.Proofs.Ytefabimolfcllaa
open Go.RowKit Go.Deep
open Go.Maps (Keyed has IsMap)
set_option linter.unusedSimpArgs false
set_option linter.unusedVariables false

theorem tmod_fix (p m : Int) (h : 0 < m) : (p.tmod m < 0 → p.tmod m + m = p % m) ∧ (¬ p.tmod m < 0 → p.tmod m = p % m) := by
  have h1 := Int.emod_nonneg p (b := m) (by omega)
  have h2 := Int.emod_lt_of_pos p h
  have h3 := Int.tmod_eq_emod (a := p) (b := m)
  split at h3
  · exact ⟨fun h => by omega, fun _ => by omega⟩
  · have h4 : ((m.natAbs : Nat) : Int) = m := by omega
    exact ⟨fun _ => by omega, fun h => by omega⟩
/-- The i-th of the picks, modulo m. -/
def pickI (L : Nat) (pk : Nat → Int) (i m : Nat) : Int := if L = 0 then 0 else pk (i % L) % (m : Int)
set_option maxHeartbeats 4000000 in
set_option maxRecDepth 20000 in
theorem pick_any (w : World) (vp : Value) (L : Nat) (pk : Nat → Int) (i m : Nat) (hv : Vs w vp L fun i => .int .i64 (pk i)) (hw : ∀ i, i < L → (Lit.int .i64 (pk i)).wf = true) (h1 : 1 ≤ m) (hm : m ≤ 1000000) (hi : i ≤ 1000000) : Calls Try.prog 33 #[vp, .int .i64 (i : Int), .int .i64 (m : Int)] w fun e w' => e = .returned (.int .i64 (pickI L pk i m)) ∧ w' = w := by
  unfold pickI
  by_cases hL : L = 0
  · subst hL
    obtain ⟨a, cap, rfl, _⟩ := hv
    rw [if_pos rfl]
    clear hw h1 hm hi
    go_enter Try.func33, Try.ntmps33
    go_wp2
    go_ret
    exact ⟨rfl, rfl⟩
  · rw [if_neg hL]
    obtain ⟨bb, off, cap, rfl, _, _, _, hc⟩ := hv.open (by omega)
    have e1 : ((L : Int) == 0) = false := by simp; omega
    obtain ⟨j, hj⟩ : ∃ j, j = i % L := ⟨_, rfl⟩
    have hjl : j < L := by rw [hj]; exact Nat.mod_lt _ (by omega)
    have hj1 : (i : Int).tmod (L : Int) = (j : Int) := by rw [Int.tmod_eq_emod_of_nonneg (by omega), hj]; rfl
    have hjI : 0 ≤ (j : Int) ∧ (j : Int) < (L : Int) := by omega
    have hcj := hc j hjl
    have hpw := bd_i64 (hw j hjl)
    obtain ⟨p, hp⟩ : ∃ p, p = pk j := ⟨_, rfl⟩
    rw [← hp] at hcj hpw
    rw [← hj, ← hp]
    obtain ⟨fx1, fx2⟩ := tmod_fix p (m : Int) (by omega)
    have hem1 := Int.emod_nonneg p (b := (m : Int)) (by omega)
    have hem2 := Int.emod_lt_of_pos p (b := (m : Int)) (by omega)
    obtain ⟨t, ht⟩ : ∃ t, t = p.tmod (m : Int) := ⟨_, rfl⟩
    obtain ⟨q, hq⟩ : ∃ q, q = p % (m : Int) := ⟨_, rfl⟩
    rw [← ht, ← hq] at fx1 fx2
    rw [← hq] at hem1 hem2 ⊢
    have RM1 := Lib.hid hj1
    have RM2 := Lib.hid ht.symm
    have HCJ := Lib.hid hcj
    have HMP : Hid ((m : Int) ≠ 0) := Lib.hid (by omega)
    have HLP : Hid ((L : Int) ≠ 0) := Lib.hid (by omega)
    by_cases hlt : t < 0
    · have hadd : IntKind.i64.wrap (t + (m : Int)) = q := by rw [fx1 hlt, IntWalk.i64_in _ (by omega)]
      clear hv hc hw hj hj1 hcj hpw hp fx1 fx2 hem1 hem2 ht hq h1 hm hi hL hjl
      go_enter Try.func33, Try.ntmps33
      go_wp2_with (first
        | (have hgo := RM1; clear hgo
           refine wpList_binF .rem 3 3 (.tmp 12) (.tmp 14) rfl rfl (fun _ => rfl) (remF _ _ _ HLP.out RM1.out) rfl rfl ?_
           clear RM1)
        | (refine wval rfl (.load 3 (.tmp 16)) rfl (.int .i64 p) (exec_load_cell _ _ _ _ rfl (by kernel_rfl) HCJ.out) ?_)
        | (have hgo := RM2; clear hgo
           refine wpList_binF .rem 3 3 (.tmp 17) (.tmp 18) rfl rfl (fun _ => rfl) (remF _ _ _ HMP.out RM2.out) rfl rfl ?_
           clear RM2))
      go_ret
      exact ⟨rfl, rfl⟩
    · obtain rfl : t = q := fx2 hlt
      clear hv hc hw hj hj1 hcj hpw hp fx1 fx2 hem1 hem2 ht hq h1 hm hi hL hjl
      go_enter Try.func33, Try.ntmps33
      go_wp2_with (first
        | (have hgo := RM1; clear hgo
           refine wpList_binF .rem 3 3 (.tmp 12) (.tmp 14) rfl rfl (fun _ => rfl) (remF _ _ _ HLP.out RM1.out) rfl rfl ?_
           clear RM1)
        | (refine wval rfl (.load 3 (.tmp 16)) rfl (.int .i64 p) (exec_load_cell _ _ _ _ rfl (by kernel_rfl) HCJ.out) ?_)
        | (have hgo := RM2; clear hgo
           refine wpList_binF .rem 3 3 (.tmp 17) (.tmp 18) rfl rfl (fun _ => rfl) (remF _ _ _ HMP.out RM2.out) rfl rfl ?_
           clear RM2))
      go_ret
      exact ⟨rfl, rfl⟩
/-- Block k as the first j of its pending writes left it. -/
def atB (good : Nat → List UInt8) (pend : Nat → List (List UInt8)) (k j : Nat) : List UInt8 := if j = 0 then good k else (pend k).getD (j - 1) []
def crB (good : Nat → List UInt8) (pend : Nat → List (List UInt8)) (k p : Nat) : List UInt8 := if p % 2 = 1 then ((pend k).getD (p / 2) []).take 32 ++ (atB good pend k (p / 2)).drop 32 else atB good pend k (p / 2)
theorem put_im (A N : List UInt8) (hA : A.length = 64) (hN : N.length = 64) : ∀ i, i < 64 → putN (imF A) 0 32 (bytesAt (N.take 32)) i = imF (N.take 32 ++ A.drop 32) i := fun i hi => by
  unfold putN
  have e : (N.take 32).length = 32 := by rw [List.length_take, hN]; rfl
  by_cases h : 0 ≤ i ∧ i < 0 + 32
  · rw [if_pos h]
    unfold bytesAt imF
    rw [List.getD_eq_getElem?_getD, List.getD_eq_getElem?_getD, List.getElem?_append_left (by omega), Nat.sub_zero]
  · rw [if_neg h]
    unfold imF
    rw [List.getD_eq_getElem?_getD, List.getD_eq_getElem?_getD, List.getElem?_append_right (by omega), e, List.getElem?_drop, show 32 + (i - 32) = i by omega]
theorem exec_sliceL {w : World} (ρ : Operand → Value) (x hi : Operand) (t : TypeId) {b : Nat} (hx : ρ x = .pointer (some ⟨b, 0, none⟩)) (hh : ρ hi = .int .i64 32) : (execOp ρ (mkOp (.slice 59 x none (some hi) none) t)).run Try.prog w = .ok (.value (.slice (some ⟨b, 0, none⟩) 32 64)) w := by
  obtain ⟨i0, hi, hz0, hz1, hz2⟩ := info_parts infoBytF
  have hbd := run_bound_in (P := Try.prog) w .i64 32 64 .sliceAlen (by omega)
  have h32 : ((32 : Nat) : Int) = 32 := rfl
  rw [h32] at hbd
  simp [execOp, mkOp, hx, hh, hbd, Instr.sliceAt, run_underlying Try.underlying59 w, Instr.sureAddr, Instr.sliceBounds, sizeOf, typeInfo, hi, hz1, Result.andThen, Addr.add_lit]
set_option maxHeartbeats 4000000 in
set_option maxRecDepth 20000 in
theorem crashed_any (y g b n c : Nat) (ops : Int) (rc : Bool) (rl : Int) (off : Bool) (w : World) (r_y : w.rowIs y 62 6 (devF (.slice (some ⟨g, 0, none⟩) n c) (.map (some b)) ops rc rl off)) {N : Nat} {pv : Nat → Value} {pb : Nat → Nat} {good : Nat → List UInt8} {pend : Nat → List (List UInt8)} (hm : BkM y g b (.slice (some ⟨g, 0, none⟩) n c) pv pb w N n good pend) (k p : Nat) (hk : k < n) (hp : p ≤ 2 * (pend k).length) (hpl : (pend k).length ≤ 200000) (hgl : ∀ j, j ≤ (pend k).length → (atB good pend k j).length = 64) : Calls Try.prog 32 #[.pointer (some ⟨y, 0, none⟩), .int .i64 (k : Int), .int .i64 (p : Int)] w fun e w' => e = .returned (imV (crB good pend k p)) ∧ Below w.heap.size w w' := by
  have Bw0 := Below.refl w.heap.size w
  have HGS : Hid (∀ wq : World, Below w.heap.size w wq → w.heap.size ≤ wq.heap.size) := Lib.hid fun wq h => h.size
  have HK := Lib.hid hk
  have HM := Lib.hid hm
  have HPL : Hid ((pend k).length < 1000000000) := Lib.hid (by omega)
  have HOW := Lib.hid (hm.lt r_y.lt)
  obtain ⟨h, hh⟩ : ∃ h, h = p / 2 := ⟨_, rfl⟩
  have HH : Hid (h ≤ (pend k).length) := Lib.hid (by omega)
  have HQ : Hid (IntKind.i64.wrap ((p : Int).tdiv 2) = (h : Int)) := Lib.hid (by rw [Int.tdiv_eq_ediv_of_nonneg (by omega), IntWalk.i64_in _ (by omega)]; omega)
  obtain ⟨A, hA⟩ : ∃ A, A = atB good pend k h := ⟨_, rfl⟩
  have HAL : Hid (A.length = 64) := Lib.hid (by rw [hA]; exact hgl h HH.out)
  have HA := Lib.hid hA
  by_cases ho : p % 2 = 1
  · have HR : Hid ((p : Int).tmod 2 = 1) := Lib.hid (by rw [Int.tmod_eq_emod_of_nonneg (by omega)]; omega)
    obtain ⟨h1, hh1⟩ : ∃ h1, h1 = h + 1 := ⟨_, rfl⟩
    have hw1 : IntKind.i64.wrap ((h : Int) + 1) = (h1 : Int) := by rw [IntWalk.i64_in _ (by omega)]; omega
    have HH1 : Hid (h1 ≤ (pend k).length) := Lib.hid (by omega)
    obtain ⟨Nx, hN⟩ : ∃ Nx, Nx = atB good pend k h1 := ⟨_, rfl⟩
    have HNL : Hid (Nx.length = 64) := Lib.hid (by rw [hN]; exact hgl h1 HH1.out)
    have HN := Lib.hid hN
    have HRS : Hid (crB good pend k p = Nx.take 32 ++ A.drop 32) := Lib.hid (by
      unfold crB
      rw [if_pos ho, ← hh, ← hA, hN]
      unfold atB
      rw [if_neg (show ¬ h1 = 0 by omega), hh1, Nat.add_sub_cancel])
    clear hk hm hp hpl hgl hh hA ho hh1 hN
    rw [HRS.out]
    go_enter Try.func32, Try.ntmps32
    go_wp2_with (first
      | (have hgo := Bw0; clear hgo
         refine wpList_alloc_row rfl 59 rfl 64 (fun _ => .int .u8 0) zeroImg ?_
         intro x6 w1 lx r_x6 kk
         have L_x6 := Lib.hid (zrl HGS Bw0 lx)
         have HMx := Lib.hid (HM.out.bel kk)
         clear HM
         have HM := HMx
         clear HMx
         replace r_y := zrb r_y kk
         skip
         have Bw1 := zbt HGS Bw0 kk
         clear Bw0 kk lx)
      | (refine wpList_binF .quo 3 3 (.tmp 11) (.const (.int .i64 2)) rfl rfl (fun _ => rfl) (quoF _ _ _ (by omega) HQ.out) rfl rfl ?_)
      | (have hgo := Bw1; clear hgo
         go_at_call 45
         refine (behind_any y g b n c ops rc rl off _ r_y HM.out k h HK.out HH.out HPL.out).mono ?_
         rintro e w2 ⟨rfl, kk⟩
         rw [← show A = if h = 0 then good k else (pend k).getD (h - 1) [] from HA.out]
         have HMx := Lib.hid (HM.out.bel kk)
         clear HM
         have HM := HMx
         clear HMx
         replace r_y := zrb r_y kk
         replace r_x6 := zrb r_x6 kk
         have Bw2 := zbt HGS Bw1 kk
         clear Bw1 kk)
      | (have hgo := Bw2; clear hgo
         refine wpList_alloc_row rfl 59 rfl 64 (fun _ => .int .u8 0) zeroImg ?_
         intro x7 w3 lx r_x7 kk
         have L_x7 := Lib.hid (zrl HGS Bw2 lx)
         have N_x6_x7 := Lib.hid (zrn r_x6 lx)
         have HMx := Lib.hid (HM.out.bel kk)
         clear HM
         have HM := HMx
         clear HMx
         replace r_y := zrb r_y kk
         skip
         replace r_x6 := zrb r_x6 kk
         have Bw3 := zbt HGS Bw2 kk
         clear Bw2 kk lx)
      | (have hgo := Bw3; clear hgo
         refine wpList_store_as rfl 59 (.tmp 7) (.tmp 13) rfl 64 (imF (A)) isImg r_x7 rfl rfl (by omega) (fun _ _ => rfl) (fun i hi => putN_whole hi) ?_
         intro w4 q gk
         replace r_x7 := q
         replace r_x6 := gb_rowIs r_x6 gk (N_x6_x7.out)
         have sk : Sam (· = x7) _ w4 := Sam.of_grown gk fun b hb => (Option.some.inj hb).symm
         have HMx := Lib.hid (HM.out.sam sk fun z hz => .inr fun ho => by have := HOW.out z ho; have := L_x7.out; omega)
         clear HM
         have HM := HMx
         clear HMx sk
         replace r_y := gb_rowIs r_y gk (by have := HOW.out y (.inl rfl); have := L_x7.out; omega)
         have Bw4 := zbg HGS Bw3 gk L_x7.out
         clear Bw3 gk q)
      | (refine wpList_binF .rem 3 3 (.tmp 14) (.const (.int .i64 2)) rfl rfl (fun _ => rfl) (remF _ _ _ (by omega) HR.out) rfl rfl ?_)
      | (refine wpList_binF .quo 3 3 (.tmp 19) (.const (.int .i64 2)) rfl rfl (fun _ => rfl) (quoF _ _ _ (by omega) HQ.out) rfl rfl ?_)
      | (have hgo := Bw4; clear hgo
         go_at_call 45
         refine (behind_any y g b n c ops rc rl off _ r_y HM.out k h1 HK.out HH1.out HPL.out).mono ?_
         rintro e w5 ⟨rfl, kk⟩
         rw [← show Nx = if h1 = 0 then good k else (pend k).getD (h1 - 1) [] from HN.out]
         have HMx := Lib.hid (HM.out.bel kk)
         clear HM
         have HM := HMx
         clear HMx
         replace r_y := zrb r_y kk
         replace r_x6 := zrb r_x6 kk
         replace r_x7 := zrb r_x7 kk
         have Bw5 := zbt HGS Bw4 kk
         clear Bw4 kk)
      | (have hgo := Bw5; clear hgo
         refine wpList_alloc_row rfl 59 rfl 64 (fun _ => .int .u8 0) zeroImg ?_
         intro x8 w6 lx r_x8 kk
         have L_x8 := Lib.hid (zrl HGS Bw5 lx)
         have N_x6_x8 := Lib.hid (zrn r_x6 lx)
         have N_x7_x8 := Lib.hid (zrn r_x7 lx)
         have HMx := Lib.hid (HM.out.bel kk)
         clear HM
         have HM := HMx
         clear HMx
         replace r_y := zrb r_y kk
         skip
         replace r_x6 := zrb r_x6 kk
         replace r_x7 := zrb r_x7 kk
         have Bw6 := zbt HGS Bw5 kk
         clear Bw5 kk lx)
      | (have hgo := Bw6; clear hgo
         refine wpList_store_as rfl 59 (.tmp 8) (.tmp 22) rfl 64 (imF (Nx)) isImg r_x8 rfl rfl (by omega) (fun _ _ => rfl) (fun i hi => putN_whole hi) ?_
         intro w7 q gk
         replace r_x8 := q
         replace r_x6 := gb_rowIs r_x6 gk (N_x6_x8.out)
         replace r_x7 := gb_rowIs r_x7 gk (N_x7_x8.out)
         have sk : Sam (· = x8) _ w7 := Sam.of_grown gk fun b hb => (Option.some.inj hb).symm
         have HMx := Lib.hid (HM.out.sam sk fun z hz => .inr fun ho => by have := HOW.out z ho; have := L_x8.out; omega)
         clear HM
         have HM := HMx
         clear HMx sk
         replace r_y := gb_rowIs r_y gk (by have := HOW.out y (.inl rfl); have := L_x8.out; omega)
         have Bw7 := zbg HGS Bw6 gk L_x8.out
         clear Bw6 gk q))
    have HE : Sam (fun _ => False) w7 w7.drew := (Sam.refl _ _).drew
    refine wp_region_linf (Sam (fun _ => False)) (fun w => Sam.refl _ w) (fun _ _ _ h k => h.trans k) 2 5 (.rd 0 (.rd 1 .done)) (by kernel_rfl) (by kernel_rfl) (by decide) (by kernel_rfl) (fun d _ _ _ _ h => by cases d <;> exact h) ?_
    refine linf_pure 23 _ _ (.slice (some ⟨x7, 0, none⟩) 32 64) rfl rfl rfl rfl rfl (fun wx hx => exec_sliceL _ _ _ _ rfl rfl) ?_
    simp only [Act.put, zA, zB, zC]
    refine linf_pure 24 _ _ (.slice (some ⟨x8, 0, none⟩) 32 64) rfl rfl rfl rfl rfl (fun wx hx => exec_sliceL _ _ _ _ rfl rfl) ?_
    simp only [Act.put, zA, zB, zC]
    refine linf_copy 25 (.tmp 23) (.tmp 24) rfl rfl rfl rfl (Sam.row r_x7 HE fun h => h) (bs_img (n := 32) (Sam.row r_x8 HE fun h => h) HNL.out (by omega)) rfl rfl (by omega) 32 (by rw [List.length_take, HNL.out]; rfl) ?_
    intro vz w9 q gk
    have r_q := q.congr (put_im A Nx HAL.out HNL.out)
    have r_6 := gb_rowIs (Sam.row r_x6 HE fun h => h) gk N_x6_x7.out
    have Bw9 := zbg HGS (Bw7.trans (HE.none.mono Bw7.size)) gk L_x7.out
    clear q gk HE r_x6 r_x7 r_x8 r_y Bw7
    go_wp2_with (first
      | (refine wpList_load_as rfl 59 (.tmp 7) rfl 64 (imF (Nx.take 32 ++ A.drop 32)) isImg r_q rfl (by omega) (fun i _ => by rw [Nat.zero_add]) ?_)
      | (have hgo := Bw9; clear hgo
         refine wpList_store_as rfl 59 (.tmp 6) (.tmp 26) rfl 64 (imF (Nx.take 32 ++ A.drop 32)) isImg r_6 rfl rfl (by omega) (fun _ _ => rfl) (fun i hi => putN_whole hi) ?_
         intro wz q gk
         have r_z := q
         have Bw10 := zbg HGS Bw9 gk L_x6.out
         clear Bw9 gk q r_6))
    exact ret_cell_as _ rfl isImg r_z rfl (by omega) (fun _ _ => rfl) rfl ⟨rfl, Bw10⟩
  · have HR : Hid ((p : Int).tmod 2 = 0) := Lib.hid (by rw [Int.tmod_eq_emod_of_nonneg (by omega)]; omega)
    have HRS : Hid (crB good pend k p = A) := Lib.hid (by
      unfold crB
      rw [if_neg ho, ← hh, ← hA])
    clear hk hm hp hpl hgl hh hA ho
    rw [HRS.out]
    go_enter Try.func32, Try.ntmps32
    go_wp2_with (first
      | (have hgo := Bw0; clear hgo
         refine wpList_alloc_row rfl 59 rfl 64 (fun _ => .int .u8 0) zeroImg ?_
         intro x6 w1 lx r_x6 kk
         have L_x6 := Lib.hid (zrl HGS Bw0 lx)
         have HMx := Lib.hid (HM.out.bel kk)
         clear HM
         have HM := HMx
         clear HMx
         replace r_y := zrb r_y kk
         skip
         have Bw1 := zbt HGS Bw0 kk
         clear Bw0 kk lx)
      | (refine wpList_binF .quo 3 3 (.tmp 11) (.const (.int .i64 2)) rfl rfl (fun _ => rfl) (quoF _ _ _ (by omega) HQ.out) rfl rfl ?_)
      | (have hgo := Bw1; clear hgo
         go_at_call 45
         refine (behind_any y g b n c ops rc rl off _ r_y HM.out k h HK.out HH.out HPL.out).mono ?_
         rintro e w2 ⟨rfl, kk⟩
         rw [← show A = if h = 0 then good k else (pend k).getD (h - 1) [] from HA.out]
         have HMx := Lib.hid (HM.out.bel kk)
         clear HM
         have HM := HMx
         clear HMx
         replace r_y := zrb r_y kk
         replace r_x6 := zrb r_x6 kk
         have Bw2 := zbt HGS Bw1 kk
         clear Bw1 kk)
      | (have hgo := Bw2; clear hgo
         refine wpList_alloc_row rfl 59 rfl 64 (fun _ => .int .u8 0) zeroImg ?_
         intro x7 w3 lx r_x7 kk
         have L_x7 := Lib.hid (zrl HGS Bw2 lx)
         have N_x6_x7 := Lib.hid (zrn r_x6 lx)
         have HMx := Lib.hid (HM.out.bel kk)
         clear HM
         have HM := HMx
         clear HMx
         replace r_y := zrb r_y kk
         skip
         replace r_x6 := zrb r_x6 kk
         have Bw3 := zbt HGS Bw2 kk
         clear Bw2 kk lx)
      | (have hgo := Bw3; clear hgo
         refine wpList_store_as rfl 59 (.tmp 7) (.tmp 13) rfl 64 (imF (A)) isImg r_x7 rfl rfl (by omega) (fun _ _ => rfl) (fun i hi => putN_whole hi) ?_
         intro w4 q gk
         replace r_x7 := q
         replace r_x6 := gb_rowIs r_x6 gk (N_x6_x7.out)
         have sk : Sam (· = x7) _ w4 := Sam.of_grown gk fun b hb => (Option.some.inj hb).symm
         have HMx := Lib.hid (HM.out.sam sk fun z hz => .inr fun ho => by have := HOW.out z ho; have := L_x7.out; omega)
         clear HM
         have HM := HMx
         clear HMx sk
         replace r_y := gb_rowIs r_y gk (by have := HOW.out y (.inl rfl); have := L_x7.out; omega)
         have Bw4 := zbg HGS Bw3 gk L_x7.out
         clear Bw3 gk q)
      | (refine wpList_binF .rem 3 3 (.tmp 14) (.const (.int .i64 2)) rfl rfl (fun _ => rfl) (remF _ _ _ (by omega) HR.out) rfl rfl ?_)
      | (refine wpList_load_as rfl 59 (.tmp 7) rfl 64 (imF (A)) isImg r_x7 rfl (by omega) (fun i _ => by rw [Nat.zero_add]) ?_)
      | (have hgo := Bw4; clear hgo
         refine wpList_store_as rfl 59 (.tmp 6) (.tmp 26) rfl 64 (imF (A)) isImg r_x6 rfl rfl (by omega) (fun _ _ => rfl) (fun i hi => putN_whole hi) ?_
         intro wz q gk
         have r_z := q
         have Bw5 := zbg HGS Bw4 gk L_x6.out
         clear Bw4 gk q r_x6))
    exact ret_cell_as _ rfl isImg r_z rfl (by omega) (fun _ _ => rfl) rfl ⟨rfl, Bw5⟩
end Go.Proofs.Ytefabimolfcllaa

/- The program's device: Crash. -/
namespace Go.Proofs.Ytefabimolfcllaa
open Go.RowKit Go.Deep
open Go.Maps (Keyed has IsMap)
set_option linter.unusedSimpArgs false
set_option linter.unusedVariables false

def pdP (pend : Nat → List (List UInt8)) : Nat → Bool := fun k => decide (¬ (pend k).length = 0)
theorem cnt_len (pend : Nat → List (List UInt8)) : ∀ n, cntS pend n = (keysL n (pdP pend)).length
  | 0 => rfl
  | n + 1 => by
    have ih := cnt_len pend n
    unfold keysL at ih ⊢
    rw [List.range_succ, List.filter_append, List.length_append, ← ih]
    show cntS pend n + (if (pend n).length = 0 then 0 else 1) = _
    by_cases h : (pend n).length = 0
    · rw [if_pos h]
      simp [pdP, h]
    · rw [if_neg h]
      simp [pdP, h]
theorem keysL_put (pend : Nat → List (List UInt8)) (k : Nat) (hp : ¬ (pend k).length = 0) : ∀ n, k < n → (keysL n (pdP pend))[cntS pend k]? = some k
  | 0, h => by omega
  | n + 1, h => by
    have hs : keysL (n + 1) (pdP pend) = keysL n (pdP pend) ++ (List.filter (pdP pend) [n]) := by
      unfold keysL
      rw [List.range_succ, List.filter_append]
    rw [hs]
    by_cases e : k = n
    · subst e
      rw [cnt_len, List.getElem?_append_right (Nat.le_refl _), Nat.sub_self]
      simp [pdP, hp]
    · have ih := keysL_put pend k hp n (by omega)
      have hl := (List.getElem?_eq_some_iff.1 ih).1
      rw [List.getElem?_append_left hl]
      exact ih
theorem keysL_at (pend : Nat → List (List UInt8)) (n i : Nat) (h : i < (keysL n (pdP pend)).length) : (keysL n (pdP pend)).getD i 0 < n ∧ ¬ (pend ((keysL n (pdP pend)).getD i 0)).length = 0 ∧ cntS pend ((keysL n (pdP pend)).getD i 0) = i := by
  have hg : (keysL n (pdP pend))[i]? = some ((keysL n (pdP pend)).getD i 0) := by
    rw [List.getD_eq_getElem?_getD, List.getElem?_eq_getElem h]
    rfl
  have hm := List.mem_of_getElem? hg
  generalize (keysL n (pdP pend)).getD i 0 = k at hg hm ⊢
  have hm2 := hm
  unfold keysL at hm2
  rw [List.mem_filter, List.mem_range] at hm2
  have hp : ¬ (pend k).length = 0 := by simpa [pdP] using hm2.2
  refine ⟨hm2.1, hp, ?_⟩
  have h2 := keysL_put pend k hp n hm2.1
  have hnd : (keysL n (pdP pend)).Nodup := (List.nodup_range (n := n)).filter _
  exact ((List.getElem?_inj h hnd).1 (hg.trans h2.symm)).symm
theorem Vs.sam {F : Nat → Prop} {w w' : World} {a : Option Addr} {m cap n : Nat} {f : Nat → Value} (h : Vs w (.slice a m cap) n f) (k : Sam F w w') (hF : ∀ x, a = some x → ¬ F x.block) : Vs w' (.slice a m cap) n f := by
  obtain ⟨a', cap', he, h1, h2, h3, h4⟩ := h
  injection he with e1 e2 e3
  subst e1 e2 e3
  refine ⟨_, _, rfl, h1, h2, h3, fun x hx i hi => ?_⟩
  obtain ⟨g1, g2⟩ := h4 x hx i hi
  refine ⟨Nat.lt_of_lt_of_le g1 k.size, ?_⟩
  rw [← g2]
  refine World.cell?_of_block ?_
  rw [add_block]
  exact k.block _ g1 (hF x hx)
theorem keys_to (mb : Option Nat) (w : World) : Calls Try.prog 31 #[.map mb] w fun e w' => ∃ Bm, e = .returned (.func (.func 48) #[] #[.pointer (some ⟨Bm, 0, none⟩)]) ∧ w'.cell? ⟨Bm, 0, none⟩ = some (.map mb) ∧ Bm < w'.heap.size ∧ Below w.heap.size w w' := by
  refine (keys_any mb w).mono ?_
  rintro e w' ⟨rfl, rfl⟩
  refine ⟨_, rfl, by simp, by simp, (Below.refl _ _).alloc (Nat.le_refl _) _⟩
/-- The blocks as a crash under way has them. -/
def crL (S : DS) (L : Nat) (pk : Nat → Int) (i : Nat) : Nat → List UInt8 := fun k => if ¬ (S.pend k).length = 0 ∧ cntS S.pend k < i then crG S L pk k else S.good k
theorem crL_zero (S : DS) (L : Nat) (pk : Nat → Int) : crL S L pk 0 = S.good := by
  funext k
  unfold crL
  rw [if_neg (by omega)]
theorem crL_step (S : DS) (L : Nat) (pk : Nat → Int) (i k : Nat) (hk : k < S.n) (hp : ¬ (S.pend k).length = 0) (hc : cntS S.pend k = i) : ∀ j, j < S.n → updF (crL S L pk i) k (crG S L pk k) j = crL S L pk (i + 1) j := fun j hj => by
  unfold updF crL
  by_cases e : j = k
  · subst e
    rw [if_pos rfl, if_pos ⟨hp, by omega⟩]
  · rw [if_neg e]
    by_cases h : ¬ (S.pend j).length = 0 ∧ cntS S.pend j < i
    · rw [if_pos h, if_pos ⟨h.1, by omega⟩]
    · rw [if_neg h, if_neg]
      rintro ⟨h1, h2⟩
      have h3 : cntS S.pend j = i := by
        have : ¬ cntS S.pend j < i := fun h4 => h ⟨h1, h4⟩
        omega
      have q1 := keysL_put S.pend j h1 S.n hj
      have q2 := keysL_put S.pend k hp S.n hk
      rw [h3] at q1
      rw [hc, q1] at q2
      exact e (Option.some.inj q2)
theorem crL_end (S : DS) (L : Nat) (pk : Nat → Int) : ∀ k, k < S.n → crL S L pk (keysL S.n (pdP S.pend)).length k = (crI S L pk S.n).good k := fun k hk => by
  show _ = if k < S.n then crG S L pk k else List.replicate 64 0
  rw [if_pos hk]
  unfold crL
  by_cases h : (S.pend k).length = 0
  · rw [if_neg (fun hh => hh.1 h)]
    have e : pickS S L pk k = 0 := by unfold pickS; rw [if_pos (.inl h)]
    unfold crG
    rw [e, if_neg (by decide)]
    rfl
  · have q := (List.getElem?_eq_some_iff.1 (keysL_put S.pend k h S.n hk)).1
    rw [if_pos ⟨h, q⟩]
theorem crB_crG (S : DS) (L : Nat) (pk : Nat → Int) (i k P m : Nat) (hp : ¬ (S.pend k).length = 0) (hc : cntS S.pend k = i) (hm : m = 2 * (S.pend k).length + 1) (hP : pickI L pk i m = (P : Int)) : crB S.good S.pend k P = crG S L pk k := by
  have e : pickS S L pk k = P := by
    unfold pickS
    unfold pickI at hP
    by_cases hL : L = 0
    · rw [if_pos hL] at hP
      rw [if_pos (.inr hL)]
      omega
    · rw [if_neg hL] at hP
      rw [if_neg (by omega), hc]
      have e2 : (2 * ((S.pend k).length : Int) + 1) = (m : Int) := by omega
      rw [e2, hP]
      omega
  unfold crB crG
  rw [e]
  rfl
theorem crashN_any (w : World) (vp : Value) : Calls Try.prog 17 #[.pointer none, vp] w fun e w' => e = .returned (.pointer none) ∧ w' = w := by
  go_enter Try.func17, Try.ntmps17
  go_wp2_with (first
    | (go_at_call 24
       refine (lenN_any _).mono ?_
       rintro e w1 ⟨rfl, rfl⟩))
  go_ret
  exact ⟨rfl, rfl⟩
set_option maxHeartbeats 4000000 in
set_option maxRecDepth 20000 in
theorem crash_raw (y g b c N B : Nat) (rc : Bool) (rl : Int) (S : DS) (w : World) (pv : Nat → Value) (pb : Nat → Nat) (L : Nat) (pk : Nat → Int) (vp : Value) (r_y : w.rowIs y 62 6 (devF (.slice (some ⟨g, 0, none⟩) S.n c) (.map (some b)) S.ops rc rl S.off)) (hm : BkM y g b (.slice (some ⟨g, 0, none⟩) S.n c) pv pb w N S.n S.good S.pend) (hs : okD S B) (hB : B ≤ 100000) (hN : N ≤ 1000000) (hv : Vs w vp L fun i => .int .i64 (pk i)) (hL : L ≤ 1000) (hw : ∀ i, i < L → (Lit.int .i64 (pk i)).wf = true) :
    Calls Try.prog 17 #[.pointer (some ⟨y, 0, none⟩), vp] w fun e w' => ∃ y2 g2 b2 c2, e = .returned (.pointer (some ⟨y2, 0, none⟩)) ∧ w'.rowIs y2 62 6 (devF (.slice (some ⟨g2, 0, none⟩) S.n c2) (.map (some b2)) 0 false 0 false) ∧ Ims w' (.slice (some ⟨g2, 0, none⟩) S.n c2) g2 S.n (crI S L pk S.n).good ∧ MpAt w' b2 0 S.n (fun _ => nilV) ∧ y2 ≠ g2 ∧ y2 ≠ b2 ∧ g2 ≠ b2 ∧ w.heap.size ≤ y2 ∧ w.heap.size ≤ g2 ∧ w.heap.size ≤ b2 ∧ Below w.heap.size w w' := by
  have Bw0 := Below.refl w.heap.size w
  have HGS : Hid (∀ wq : World, Below w.heap.size w wq → w.heap.size ≤ wq.heap.size) := Lib.hid fun wq h => h.size
  have e1 : ((S.n : Int) == 0) = false := by have := hm.n1; simp; omega
  have HM := Lib.hid hm
  have HS := Lib.hid hs
  have HB9 := Lib.hid hB
  have HNN := Lib.hid hN
  have HV := Lib.hid hv
  have HL := Lib.hid hL
  have HW := Lib.hid hw
  have HR0 := Lib.hid r_y
  have HPP : Hid (∀ k, k < S.n → (pdP S.pend k = true ↔ pv k ≠ nilV)) := Lib.hid fun k hk => by
    rw [← hm.pvn k hk]
    unfold pdP
    simp
  clear hm hs hB hN hv hL hw
  go_enter Try.func17, Try.ntmps17
  go_wp2_with (first
    | (go_at_call 24
       refine (len_any y g b S.n c S.ops rc rl S.off _ r_y).mono ?_
       rintro e w1 ⟨rfl, rfl⟩)
    | (refine wpList_loadG 56 (.tmp 13) rfl rfl (.slice (some ⟨g, 0, none⟩) S.n c) r_y rfl (by omega) rfl (by kernel_rfl) ?_)
    | (have hgo := Bw0; clear hgo
       go_at_call 29
       refine (clone_any g S.n c _ S.good HM.out.lg HM.out.n1 (by have := HM.out.nn; omega)).mono ?_
       rintro e w2 ⟨g2, c2, rfl, lg2, hg2, kk⟩
       have LG2 := Lib.hid lg2
       have HG2 := Lib.hid hg2
       have HM2 := Lib.hid (HM.out.bel kk)
       replace r_y := zrb r_y kk
       have Bw1 := kk
       clear Bw0 kk lg2 hg2)
    | (have hgo := Bw1; clear hgo
       go_at_call 28
       refine (fresh_any g2 S.n c2 _ S.n).mono ?_
       rintro e w3 ⟨y2, b2, rfl, ly2, lb2, nyb, r_o, m_b, kk⟩
       have NYG : Hid (y2 ≠ g2 ∧ y2 ≠ b2 ∧ g2 ≠ b2) := Lib.hid ⟨Nat.ne_of_gt (Nat.lt_of_lt_of_le HG2.out.lt ly2), nyb, Nat.ne_of_lt (Nat.lt_of_lt_of_le HG2.out.lt lb2)⟩
       have LYB : Hid (w1.heap.size ≤ y2 ∧ w1.heap.size ≤ b2) := Lib.hid ⟨Nat.le_trans (HGS.out _ Bw1) ly2, Nat.le_trans (HGS.out _ Bw1) lb2⟩
       have HG3 := Lib.hid (HG2.out.bel kk)
       have HMB := Lib.hid m_b
       have HM3 := Lib.hid (HM2.out.bel kk)
       replace r_y := zrb r_y kk
       have Bw2 := zbt HGS Bw1 kk
       clear Bw1 kk ly2 lb2 nyb m_b)
    | (refine wpList_loadG 60 (.tmp 19) rfl rfl (.map (some b)) r_y rfl (by omega) rfl (by kernel_rfl) ?_)
    | (have hgo := Bw2; clear hgo
       go_at_call 31
       refine (keys_to (some b) _).mono ?_
       rintro e w4 ⟨Bm, rfl, hcm, lbm, kk⟩
       have HCM := Lib.hid hcm
       have LBM := Lib.hid lbm
       have HG4 := Lib.hid (HG3.out.bel kk)
       have HMB4 := Lib.hid (HMB.out.bel kk)
       have HM4 := Lib.hid (HM3.out.bel kk)
       replace r_o := zrb r_o kk
       have Bw3 := zbt HGS Bw2 kk
       clear Bw2 kk hcm lbm)
    | (have hgo := Bw3; clear hgo
       go_at_call 30
       refine (sortedKeys_any _ Bm b N S.n pv (pdP S.pend) HPP.out HCM.out LBM.out HM4.out.mp HNN.out HM4.out.nn).mono ?_
       rintro e w5 ⟨ak, capk, rfl, hvk, hak, kk⟩
       have HVK := Lib.hid hvk
       have HAK : Hid (∀ x, ak = some x → x.block ≠ g2) := Lib.hid fun x hx e => by have := hak x hx; have := HG4.out.lt; omega
       have HG5 := Lib.hid (HG4.out.bel kk)
       have HMB5 := Lib.hid (HMB4.out.bel kk)
       replace r_o := zrb r_o kk
       have Bw4 := zbt HGS Bw3 kk
       clear Bw3 kk hvk hak))
  obtain ⟨K, hK⟩ : ∃ K, K = (keysL S.n (pdP S.pend)).length := ⟨_, rfl⟩
  rw [← hK] at HVK ⊢
  have HK := Lib.hid hK
  have HKN : Hid (K ≤ S.n) := Lib.hid (by rw [hK, ← cnt_len]; exact cntS_le _ _)
  obtain ⟨ks, hks⟩ : ∃ ks, ks = keysL S.n (pdP S.pend) := ⟨_, rfl⟩
  rw [← hks] at HVK
  have HKS := Lib.hid hks
  clear hK hks r_y
  go_loopw [24] (fun iv wr => ∃ i : Nat, i ≤ K ∧ iv = .int .i64 (i : Int) ∧ Ims wr (.slice (some ⟨g2, 0, none⟩) S.n c2) g2 S.n (crL S L pk i) ∧ wr.rowIs y2 62 6 (devF (.slice (some ⟨g2, 0, none⟩) S.n c2) (.map (some b2)) 0 false 0 false) ∧ MpAt wr b2 0 S.n (fun _ => nilV) ∧ Vs wr (.slice ak K capk) K (fun i => .int .i64 ((ks.getD i 0 : Nat) : Int)) ∧ Below w1.heap.size w1 wr)
    (fun iv _ => K - (intOf iv).toNat)
  case atStart => exact ⟨0, Nat.zero_le _, rfl, by rw [crL_zero]; exact HG5.out, r_o, HMB5.out, HVK.out, Bw4⟩
  case round =>
    clear r_o HG5 HMB5 HVK Bw4 HG2 HG3 HG4 HMB HMB4 HM2 HM3 HM4 HCM LBM
    obtain ⟨i, hi, rfl, hgi, r_o, hmb, hvk, Bw0⟩ := hrel
    have HGI := Lib.hid hgi
    have HMB := Lib.hid hmb
    have HVK := Lib.hid hvk
    by_cases hlt : i < K
    · have hltI : (i : Int) < (K : Int) := by omega
      have hi0 : 0 ≤ (i : Int) ∧ (i : Int) < (K : Int) := by omega
      have HI := Lib.hid hlt
      obtain ⟨i1, hi1⟩ := nat_var (i + 1)
      have HI1 := Lib.hid hi1
      have hw1 : IntKind.i64.wrap ((i : Int) + 1) = (i1 : Int) := by
        have := HKN.out
        have := HM.out.nn
        rw [IntWalk.i64_in _ (by omega)]; omega
      obtain ⟨bb, off, cap', he, _, _, _, hcs⟩ := hvk.open (by omega)
      injection he with h1 h2 h3
      subst h1
      subst h3
      have hcell := hcs i hlt
      obtain ⟨k, hk⟩ : ∃ k, k = ks.getD i 0 := ⟨_, rfl⟩
      rw [← hk] at hcell
      have HCL := Lib.hid hcell
      have hat := keysL_at S.pend S.n i (by rw [← HK.out]; exact hlt)
      rw [← HKS.out, ← hk] at hat
      obtain ⟨hkn, hpn, hck⟩ := hat
      have HKN2 := Lib.hid hkn
      have HPN := Lib.hid hpn
      have HCK := Lib.hid hck
      have hlb := HS.out.cnt k
      obtain ⟨ln, hln⟩ := nat_var (S.pend k).length
      obtain ⟨l2, hl2⟩ := nat_var (2 * ln)
      obtain ⟨m1, hm1⟩ := nat_var (l2 + 1)
      have hb9 := HB9.out
      have hw2 : IntKind.i64.wrap (2 * (ln : Int)) = (l2 : Int) := by rw [IntWalk.i64_in _ (by omega)]; omega
      have hw3 : IntKind.i64.wrap ((l2 : Int) + 1) = (m1 : Int) := by rw [IntWalk.i64_in _ (by omega)]; omega
      have HM1 : Hid (m1 = 2 * (S.pend k).length + 1) := Lib.hid (by omega)
      have HLN := Lib.hid hln
      have HLB : Hid ((S.pend k).length ≤ 200000) := Lib.hid (by omega)
      have HPK : Hid (pickI L pk i m1 = ((pickI L pk i m1).toNat : Int)) := Lib.hid (by
        unfold pickI
        split
        · rfl
        · have := Int.emod_nonneg (pk (i % L)) (b := (m1 : Int)) (by omega)
          omega)
      have HPU : Hid ((pickI L pk i m1).toNat ≤ 2 * (S.pend k).length) := Lib.hid (by
        have hmm := HM1.out
        unfold pickI
        split
        · omega
        · have := Int.emod_nonneg (pk (i % L)) (b := (m1 : Int)) (by omega)
          have := Int.emod_lt_of_pos (pk (i % L)) (b := (m1 : Int)) (by omega)
          omega)
      obtain ⟨P, hP⟩ : ∃ P, P = (pickI L pk i m1).toNat := ⟨_, rfl⟩
      rw [← hP] at HPK HPU
      obtain ⟨ax, cx, hcx⟩ := HM.out.look k hkn
      rw [← hln] at hcx
      have HCX := Lib.hid hcx
      have HMW := Lib.hid (HM.out.bel Bw0)
      have r_y := zrb HR0.out Bw0
      have HVW := Lib.hid (HV.out.bel Bw0)
      have HGL : Hid (∀ j, j ≤ (S.pend k).length → (atB S.good S.pend k j).length = 64) := Lib.hid fun j hj => atS_len S k j (HS.out.good k hkn) (HS.out.pend k hkn) hj
      have HI6 : Hid (i ≤ 1000000) := Lib.hid (by have := HKN.out; have := HM.out.nn; omega)
      clear hi hgi hmb hvk hlt hi1 h2 hcs hcell hk hkn hpn hck hlb hln hl2 hm1 hb9 hP hcx
      go_wp2_with (first
        | (refine wval rfl (.load 3 (.tmp 27)) rfl (.int .i64 (k : Int)) (exec_load_cell _ _ _ _ rfl (by kernel_rfl) HCL.out) ?_))
      have HE : Sam (fun _ => False) wr wr.drew := (Sam.refl _ _).drew
      refine wp_region_linf (Sam (fun _ => False)) (fun w => Sam.refl _ w) (fun _ _ _ h k => h.trans k) 21 40 (.rd 0 (.rd 1 (.rd 2 (.rd 3 (.rd 4 (.rd 5 (.rd 6 (.rd 7 (.rd 8 (.rd 9 (.rd 10 (.rd 11 (.rd 12 (.rd 13 (.rd 14 (.rd 15 (.rd 16 (.rd 17 (.wr 18 (.wr 19 (.rd 20 .done))))))))))))))))))))) (by kernel_rfl) (by kernel_rfl) (by decide) (by kernel_rfl) (fun d _ _ _ _ h => by cases d <;> exact h) ?_
      refine linf_pure 29 _ _ (.pointer (some ⟨y2, 0, none⟩)) rfl rfl rfl rfl rfl (fun wx hx => by unfold mkOp; go_simp; all_goals (with_reducible rfl)) ?_
      simp only [Act.put, zA, zB, zC]
      refine linf_pure 30 _ _ (.pointer (some ⟨y2, 0, none⟩)) rfl rfl rfl rfl rfl (fun wx hx => by unfold mkOp; go_simp; all_goals (with_reducible rfl)) ?_
      simp only [Act.put, zA, zB, zC]
      refine linf_pure 31 _ _ (.pointer (some ⟨y2, 0, none⟩)) rfl rfl rfl rfl rfl (fun wx hx => by unfold mkOp; go_simp; all_goals (with_reducible rfl)) ?_
      simp only [Act.put, zA, zB, zC]
      refine linf_pure 32 _ _ (.slice (some ⟨g2, 0, none⟩) S.n c2) rfl rfl rfl rfl rfl (fun wx hx => exec_loadG _ _ _ _ _ r_o (HE.trans hx) (fun h => h) rfl (by omega) rfl (by kernel_rfl)) ?_
      simp only [Act.put, zA, zB, zC]
      refine linf_pure 33 _ _ (.int .i64 (k : Int)) rfl rfl rfl rfl rfl (fun wx hx => by unfold mkOp; go_simp; all_goals (with_reducible rfl)) ?_
      simp only [Act.put, zA, zB, zC]
      refine linf_pure 34 _ _ (.pointer (some ⟨y, 0, none⟩)) rfl rfl rfl rfl rfl (fun wx hx => by unfold mkOp; go_simp; all_goals (with_reducible rfl)) ?_
      simp only [Act.put, zA, zB, zC]
      refine linf_pure 35 _ _ (.int .i64 (k : Int)) rfl rfl rfl rfl rfl (fun wx hx => by unfold mkOp; go_simp; all_goals (with_reducible rfl)) ?_
      simp only [Act.put, zA, zB, zC]
      refine linf_pure 36 _ _ (vp) rfl rfl rfl rfl rfl (fun wx hx => by unfold mkOp; go_simp; all_goals (with_reducible rfl)) ?_
      simp only [Act.put, zA, zB, zC]
      refine linf_pure 37 _ _ (.int .i64 (i : Int)) rfl rfl rfl rfl rfl (fun wx hx => by unfold mkOp; go_simp; all_goals (with_reducible rfl)) ?_
      simp only [Act.put, zA, zB, zC]
      refine linf_pure 38 _ _ (.pointer (some ⟨y, 0, none⟩)) rfl rfl rfl rfl rfl (fun wx hx => by unfold mkOp; go_simp; all_goals (with_reducible rfl)) ?_
      simp only [Act.put, zA, zB, zC]
      refine linf_pure 39 _ _ (.pointer (some ⟨y, 0, none⟩)) rfl rfl rfl rfl rfl (fun wx hx => by unfold mkOp; go_simp; all_goals (with_reducible rfl)) ?_
      simp only [Act.put, zA, zB, zC]
      refine linf_pure 40 _ _ (.pointer (some ⟨y, 1, none⟩)) rfl rfl rfl rfl rfl (fun wx hx => by unfold mkOp; go_simp; all_goals (with_reducible rfl)) ?_
      simp only [Act.put, zA, zB, zC]
      refine linf_pure 41 _ _ (.map (some b)) rfl rfl rfl rfl rfl (fun wx hx => exec_loadG _ _ _ _ (.map (some b)) r_y (HE.trans hx) (fun h => h) rfl (by omega) rfl (by kernel_rfl)) ?_
      simp only [Act.put, zA, zB, zC]
      refine linf_pure 42 _ _ (.int .i64 (k : Int)) rfl rfl rfl rfl rfl (fun wx hx => by unfold mkOp; go_simp; all_goals (with_reducible rfl)) ?_
      simp only [Act.put, zA, zB, zC]
      refine linf_pure 43 _ _ (.slice ax ln cx) rfl rfl rfl rfl rfl (fun wx hx => by rw [← HCX.out]; exact exec_lookM _ _ _ _ (HMW.out.mp.sam (HE.trans hx) fun h => h) rfl rfl HKN2.out (by have := HMW.out.nn; omega)) ?_
      simp only [Act.put, zA, zB, zC]
      refine linf_pure 44 _ _ (.int .i64 (ln : Int)) rfl rfl rfl rfl rfl (fun wx hx => by unfold mkOp; go_simp; all_goals (with_reducible rfl)) ?_
      simp only [Act.put, zA, zB, zC]
      refine linf_pure 45 _ _ (.int .i64 (l2 : Int)) rfl rfl rfl rfl rfl (fun wx hx => by unfold mkOp; go_simp; all_goals (with_reducible rfl)) ?_
      simp only [Act.put, zA, zB, zC]
      refine linf_pure 46 _ _ (.int .i64 (m1 : Int)) rfl rfl rfl rfl rfl (fun wx hx => by unfold mkOp; go_simp; all_goals (with_reducible rfl)) ?_
      simp only [Act.put, zA, zB, zC]
      refine linf_fn 47 33 _ _ _ (pick_any _ vp L pk i m1 (HVW.out.bel HE.none) HW.out (by have := HM1.out; omega) (by have := HM1.out; have := HLB.out; omega) HI6.out) rfl rfl rfl rfl Try.func33 (by kernel_rfl) (by kernel_rfl) (by go_simp) ?_
      rintro e wf47 ⟨rfl, rfl⟩
      refine ⟨_, rfl, Sam.refl _ _, ?_⟩
      rw [HPK.out]
      simp only [Act.put, zA, zB, zC]
      refine linf_fn 48 32 _ _ _ (crashed_any y g b S.n c S.ops rc rl S.off _ (Sam.row r_y HE fun h => h) (HMW.out.sam HE fun _ h => h.elim) k P HKN2.out HPU.out HLB.out HGL.out) rfl rfl rfl rfl Try.func32 (by kernel_rfl) (by kernel_rfl) (by go_simp) ?_
      rintro e wf48 ⟨rfl, kk⟩
      refine ⟨_, rfl, Sam.of_below kk, ?_⟩
      replace HE : Sam (fun _ => False) wr wf48 := HE.trans (Sam.of_below kk)
      clear kk
      simp only [Act.put, zA, zB, zC]
      refine linf_pure 49 _ _ (.pointer (some ⟨g2, k * 64, none⟩)) rfl rfl rfl rfl rfl (fun wx hx => exec_ixI _ _ _ _ rfl rfl HKN2.out) ?_
      simp only [Act.put, zA, zB, zC]
      refine linf_upd _ _ rfl rfl rfl rfl rfl _ (exec_storeI _ _ _ _ (HGI.out.sam HE fun h => h) rfl rfl HKN2.out) ?_
      rintro w9 ⟨u1, u2⟩
      have hcr := crB_crG S L pk i k P m1 HPN.out HCK.out HM1.out HPK.out
      rw [hcr] at u1
      have HG9 := Lib.hid (u1.congr (crL_step S L pk i k HKN2.out HPN.out HCK.out))
      have r_9 := Sam.row (Sam.row r_o HE fun h => h) u2 NYG.out.1
      have HMB9 := Lib.hid ((HMB.out.sam HE fun h => h).sam u2 (fun e => NYG.out.2.2 e.symm))
      have HVK9 := Lib.hid ((HVK.out.sam HE fun _ _ h => h).sam u2 fun x hx => HAK.out x hx)
      have Bw9 : Below w1.heap.size w1 w9 := (Bw0.trans (HE.none.mono Bw0.size)).trans (u2.below (fun x hx => by rw [hx]; exact LG2.out) (Nat.le_trans Bw0.size HE.size))
      clear u1 u2 hcr HE r_o r_y
      go_wp2
      go_roundw
      case rel => exact ⟨i + 1, HI.out, by rw [HI1.out], HG9.out, r_9, HMB9.out, HVK9.out, Bw9⟩
      case measure => (have := HI.out; have := HI1.out; simp [intOf]; try omega)
    · obtain rfl : i = K := by omega
      have hltI : ¬ (i : Int) < (i : Int) := by omega
      clear hi hlt hgi hmb hvk
      go_wp2
      go_ret
      have hend := HGI.out
      rw [HK.out] at hend
      exact ⟨y2, rfl, g2, b2, c2, r_o, hend.congr (crL_end S L pk), HMB.out, NYG.out.1, NYG.out.2.1, NYG.out.2.2, LYB.out.1, LG2.out, LYB.out.2, Bw0⟩
end Go.Proofs.Ytefabimolfcllaa

/- The program's device keeps what is asked of one. -/
namespace Go.Proofs.Ytefabimolfcllaa
open Go.RowKit Go.Deep
open Go.Maps (Keyed has IsMap)
set_option linter.unusedSimpArgs false
set_option linter.unusedVariables false

theorem made_at {y g b c : Nat} {w : World} {S : DS} (h1 : 1 ≤ S.n) (h2 : S.n ≤ 65536) (r_y : w.rowIs y 62 6 (devF (.slice (some ⟨g, 0, none⟩) S.n c) (.map (some b)) 0 false 0 false)) (hg : Ims w (.slice (some ⟨g, 0, none⟩) S.n c) g S.n S.good) (hm : MpAt w b 0 S.n fun _ => nilV) (yg : y ≠ g) (yb : y ≠ b) (gb : g ≠ b) (hp : ∀ k, S.pend k = []) (ho : S.ops = 0) (hc : S.cut = false) (hf : S.off = false) :
    BkAt (ownB y g b S.n (fun _ => 0) S.pend) (ownB y g b S.n (fun _ => 0) S.pend) w y S :=
  ⟨g, b, c, fun _ => nilV, fun _ => 0, false, 0, 0, by rw [ho, hf]; exact r_y, ⟨h1, h2, hg, hm, fun k _ => .inl ⟨hp k, rfl⟩, yg, yb, gb, fun k _ h => absurd (hp k) h, fun j k _ _ h => absurd (hp j) h⟩, by omega, ⟨fun h => (by rw [hf] at h; cases h), fun _ => ⟨hc.symm, fun h => (by rw [hc] at h; cases h)⟩⟩, fun _ => Iff.rfl, fun _ => Iff.rfl⟩
theorem new_own {y g b n m : Nat} {pb : Nat → Nat} {pend : Nat → List (List UInt8)} (h1 : m ≤ y) (h2 : m ≤ g) (h3 : m ≤ b) (hp : ∀ k, pend k = []) : ∀ x, ownB y g b n pb pend x → m ≤ x := by
  rintro x (rfl | rfl | rfl | ⟨k, _, h, _⟩)
  · exact h1
  · exact h2
  · exact h3
  · exact absurd (hp k) h
set_option maxHeartbeats 4000000 in
set_option maxRecDepth 20000 in
theorem new_yes (n : Nat) (w : World) (h1 : 1 ≤ n) (h2 : n ≤ 65536) : Calls Try.prog 22 #[.int .i64 (n : Int)] w fun e w' => ∃ y T D, e = .returned (.tuple #[.pointer (some ⟨y, 0, none⟩), .int .i64 0]) ∧ BkAt T D w' y (newS n) ∧ (∀ b, D b → w.heap.size ≤ b) ∧ Below w.heap.size w w' := by
  have p1 : ¬ (n : Int) < 1 := by omega
  have p2 : ¬ (65536 : Int) < (n : Int) := by omega
  have Bw0 := Below.refl w.heap.size w
  have HGS : Hid (∀ wq : World, Below w.heap.size w wq → w.heap.size ≤ wq.heap.size) := Lib.hid fun wq h => h.size
  have H1 := Lib.hid h1
  have H2 := Lib.hid h2
  clear h1 h2
  go_enter Try.func22, Try.ntmps22
  go_wp2_with (first
    | (have hgo := Bw0; clear hgo
       refine wmakeI rfl (.tmp 10) rfl n rfl H1.out H2.out ?_
       intro g w1 lg hg kk
       have HG := Lib.hid hg
       have LG := Lib.hid lg
       have Bw1 := kk
       clear Bw0 kk hg lg)
    | (have hgo := Bw1; clear hgo
       go_at_call 28
       refine (fresh_any g n n _ n).mono ?_
       rintro e w2 ⟨y, b, rfl, ly, lb, nyb, r_y, m_b, kk⟩
       have HNE : Hid (y ≠ g ∧ y ≠ b ∧ g ≠ b) := Lib.hid ⟨Nat.ne_of_gt (Nat.lt_of_lt_of_le HG.out.lt ly), nyb, Nat.ne_of_lt (Nat.lt_of_lt_of_le HG.out.lt lb)⟩
       have HLY : Hid (w.heap.size ≤ y ∧ w.heap.size ≤ b) := Lib.hid ⟨Nat.le_trans (HGS.out _ Bw1) ly, Nat.le_trans (HGS.out _ Bw1) lb⟩
       have HG2 := Lib.hid (HG.out.bel kk)
       have HMB := Lib.hid m_b
       have Bw2 := zbt HGS Bw1 kk
       clear Bw1 kk ly lb nyb m_b))
  go_ret2
  exact ⟨y, _, _, rfl, made_at (S := newS n) H1.out H2.out r_y HG2.out HMB.out HNE.out.1 HNE.out.2.1 HNE.out.2.2 (fun _ => rfl) rfl rfl rfl, new_own HLY.out.1 LG.out HLY.out.2 (fun _ => rfl), Bw2⟩
theorem BkAt.same {T D : Nat → Prop} {w : World} {y : Nat} {S : DS} (h : BkAt T D w y S) : BkNew BkAt T D w y S w := ⟨T, D, h, Sam.refl _ _, fun _ h => .inl h, fun _ h => .inl h⟩
theorem BkAt.below {T D : Nat → Prop} {w : World} {y : Nat} {S : DS} (h : BkAt T D w y S) : ∀ b, D b → b < w.heap.size := by
  obtain ⟨g, b, c, pv, pb, rc, rl, N, r_y, hm, hN, hl, hT, hD⟩ := h
  exact fun x hx => hm.lt r_y.lt x ((hD x).1 hx)
theorem write_any (T D : Nat → Prop) (w : World) (y : Nat) (S : DS) (B : Nat) (k : Int) (vb : Value) (b : List UInt8) (h : BkAt T D w y S) (hs : okD S B) (hB : B ≤ 100000) (hb : BsK T w vb b) : Calls Try.prog 39 #[.pointer (some ⟨y, 0, none⟩), .int .i64 k, vb] w fun e w' => e = .returned (.int .i64 (wrE S k b)) ∧ BkNew BkAt T D w y (wrT S k b) w' := by
  obtain ⟨ad, cap, rfl, hc1, hc2, hc3, _⟩ := hb.bs
  by_cases hk : (decide (0 ≤ k) && decide (k < (S.n : Int))) = true
  · by_cases hn : b.length = 64
    · have ha : argS S k b = true := by unfold argS; rw [hk]; simp [hn]
      obtain ⟨k1, k2⟩ : 0 ≤ k ∧ k < (S.n : Int) := by simpa using hk
      unfold wrE wrT
      rw [if_pos ha, if_pos ha]
      cases ho : opOk S with
      | true =>
        rw [if_pos rfl, if_pos rfl]
        obtain ⟨kn, rfl⟩ : ∃ kn : Nat, k = (kn : Int) := ⟨k.toNat, by omega⟩
        cases ad with
        | none => have := hc3 rfl; omega
        | some ax =>
          rw [hn] at hb ⊢
          exact write_ok T D w y S B kn ax cap b h hs hB (by omega) hb ho
      | false =>
        rw [if_neg (by decide), if_neg (by decide)]
        refine (write_off T D w y S B k ad b.length cap h hs hB hk hn ho).mono ?_
        rintro e w' ⟨rfl, h2, h3⟩
        exact ⟨rfl, T, D, h2, h3.one h.ty, fun _ h => .inl h, fun _ h => .inl h⟩
    · have ha : ¬ argS S k b = true := fun h2 => hn (argS_yes h2).2.2
      unfold wrE wrT
      rw [if_neg ha, if_neg ha]
      refine (write_len T D w y S B k ad b.length cap h hk hn).mono ?_
      rintro e w' ⟨rfl, rfl⟩
      exact ⟨rfl, h.same⟩
  · have ha : ¬ argS S k b = true := fun h2 => hk (by obtain ⟨q1, q2, _⟩ := argS_yes h2; simp [q1, q2])
    unfold wrE wrT
    rw [if_neg ha, if_neg ha]
    refine (write_has T D w y S B k ad b.length cap h (by simpa using hk)).mono ?_
    rintro e w' ⟨rfl, rfl⟩
    exact ⟨rfl, h.same⟩
theorem Below.same (w : World) : Below w.heap.size w w := Below.refl _ _
end Go.Proofs.Ytefabimolfcllaa

/- What a store keeps on a device, in lists: a head, two areas, marked blocks; what a save leaves of them wherever the power goes. -/
namespace Go.Proofs.Ytefabimolfcllaa
open Go.RowKit Go.Deep
set_option linter.unusedSimpArgs false
set_option linter.unusedVariables false

def markB : List UInt8 := [109, 105, 115, 115, 105, 118, 101, 58]
def zeroB : List UInt8 := List.replicate 64 0
/-- A block of the mark, these bytes, and noughts. -/
def markedL (l : List UInt8) : List UInt8 := markB ++ l ++ List.replicate (56 - l.length) 0
theorem markedL_len (l : List UInt8) (h : l.length ≤ 56) : (markedL l).length = 64 := by
  simp [markedL, markB]; omega
def headL (c s : Nat) : List UInt8 := markedL (bigB c 8 ++ bigB s 8)
theorem headL_len (c s : Nat) : (headL c s).length = 64 := markedL_len _ (by simp [bigB_length])
def headB (x : Ct) : List UInt8 := if x.2 = 0 then zeroB else headL x.2 x.1.length
def placeN (c i : Nat) : Nat := 1 + 2 * i + c % 2
def pieceL (b : List UInt8) (i : Nat) : List UInt8 := (b.drop (56 * i)).take 56
theorem pieceL_len (b : List UInt8) (i : Nat) : (pieceL b i).length ≤ 56 := by simp [pieceL]; omega
def pcs (n : Nat) : Nat := (n + 55) / 56
def okB (l : List UInt8) : Prop := l = zeroB ∨ l.take 8 = markB
theorem okB_marked (l : List UInt8) : okB (markedL l) := .inr (by simp [markedL, markB])
theorem okB_head (c s : Nat) : okB (headL c s) := okB_marked _
/-- A torn one of a block with the mark begins with it too. -/
theorem okB_torn (l m : List UInt8) (h : l.take 8 = markB) (hl : l.length = 64) : okB (l.take 32 ++ m.drop 32) := .inr (by
  rw [List.take_append_of_le_length (by simp [hl]), List.take_take]
  exact h)
/-- The blocks g hold x. -/
structure Holds (g : Nat → List UInt8) (n : Nat) (x : Ct) : Prop where
  n1 : 1 ≤ n
  n2 : n ≤ 256
  head : g 0 = headB x
  room : x.1.length ≤ roomN n
  cnt : x.2 ≤ 1000000
  nil : x.2 = 0 → x.1 = []
  at_ : ∀ i, i < pcs x.1.length → g (placeN x.2 i) = markedL (pieceL x.1 i)
  ok : ∀ k, k < n → okB (g k)
theorem room_pcs {n l i : Nat} (hn : n ≤ 256) (h : l ≤ roomN n) (hi : i < pcs l) (c : Nat) : placeN c i < n ∧ 64 ≤ n := by
  unfold roomN pcs placeN at *
  split at h <;> omega
theorem Holds.congr {g h : Nat → List UInt8} {n : Nat} {x : Ct} (H : Holds g n x) (e : ∀ k, k < n → h k = g k) : Holds h n x := by
  have := H.n1
  refine ⟨H.n1, H.n2, by rw [e 0 (by omega)]; exact H.head, H.room, H.cnt, H.nil, fun i hi => ?_, fun k hk => by rw [e k hk]; exact H.ok k hk⟩
  rw [e _ (room_pcs H.n2 H.room hi _).1]
  exact H.at_ i hi
theorem holds_new (n : Nat) (h1 : 1 ≤ n) (h2 : n ≤ 256) : Holds (newS n).good n ([], 0) :=
  ⟨h1, h2, rfl, Nat.zero_le _, by decide, fun _ => rfl, fun i hi => (by simp [pcs] at hi), fun k _ => .inl rfl⟩
/-- Other blocks than those of x, that may be a store's, change nothing of it. -/
theorem Holds.other {g h : Nat → List UInt8} {n : Nat} {x : Ct} (H : Holds g n x) (e0 : h 0 = g 0) (ea : ∀ i, i < pcs x.1.length → h (placeN x.2 i) = g (placeN x.2 i)) (ok : ∀ k, k < n → okB (h k)) : Holds h n x :=
  ⟨H.n1, H.n2, by rw [e0]; exact H.head, H.room, H.cnt, H.nil, fun i hi => by rw [ea i hi]; exact H.at_ i hi, ok⟩
/-- The device behind the first j pieces of b. -/
def wrN (S : DS) (c : Nat) (b : List UInt8) : Nat → DS
  | 0 => S
  | j + 1 => wrS (wrN S c b j) (placeN c j) (markedL (pieceL b j))
theorem place_inj {c i j : Nat} : placeN c i = placeN c j ↔ i = j := by unfold placeN; omega
theorem place_other (c i j : Nat) : placeN c i ≠ placeN (c + 1) j := by unfold placeN; omega
theorem place_pos (c i : Nat) : placeN c i ≠ 0 := by unfold placeN; omega
structure WrOk (S T : DS) (c : Nat) (b : List UInt8) (j : Nat) : Prop where
  n : T.n = S.n
  good : T.good = S.good
  cut : T.cut = S.cut
  pend : ∀ k, T.pend k = (if ∃ i, i < j ∧ k = placeN c i then [nowS T k] else [])
  at_ : ∀ i, i < j → T.pend (placeN c i) = [markedL (pieceL b i)]
theorem opD_cut (S : DS) : (opD S).cut = S.cut := by
  unfold opD
  split
  · rfl
  · split
    · split <;> rfl
    · rfl
theorem wrN_ok (S : DS) (c : Nat) (b : List UInt8) (hp : ∀ k, S.pend k = []) : ∀ j, WrOk S (wrN S c b j) c b j
  | 0 => ⟨rfl, rfl, rfl, fun k => by rw [if_neg (fun ⟨i, hi, _⟩ => absurd hi (Nat.not_lt_zero _))]; exact hp k, fun i hi => absurd hi (Nat.not_lt_zero _)⟩
  | j + 1 => by
    have H := wrN_ok S c b hp j
    obtain ⟨e1, e2, e3, e4⟩ := opD_same (wrN S c b j)
    have hj : (wrN S c b j).pend (placeN c j) = [] := by
      rw [H.pend, if_neg]
      rintro ⟨i, hi, he⟩
      have := place_inj.1 he
      omega
    have hat : ∀ i, i < j + 1 → (wrN S c b (j + 1)).pend (placeN c i) = [markedL (pieceL b i)] := fun i hi => by
      show updF (wrN S c b j).pend (placeN c j) _ _ = _
      unfold updF
      split
      · rename_i e
        have e' := place_inj.1 e
        subst e'
        rw [hj]
        rfl
      · rename_i e
        exact H.at_ i (by have : i ≠ j := fun h => e (by rw [h]); omega)
    refine ⟨?_, ?_, ?_, fun k => ?_, hat⟩
    · show (opD (wrN S c b j)).n = _; rw [e1]; exact H.n
    · show (opD (wrN S c b j)).good = _; rw [e2]; exact H.good
    · show (opD (wrN S c b j)).cut = _; rw [opD_cut]; exact H.cut
    · split
      · rename_i h
        obtain ⟨i, hi, rfl⟩ := h
        unfold nowS atS
        rw [hat i hi]
        rfl
      · rename_i h
        show updF (wrN S c b j).pend (placeN c j) _ k = _
        unfold updF
        rw [if_neg (fun e => h ⟨j, Nat.lt_succ_self _, e⟩), H.pend, if_neg (fun ⟨i, hi, he⟩ => h ⟨i, Nat.lt_succ_of_lt hi, he⟩)]
/-- Whatever a crash leaves of a device on which only blocks may be pending that x doesn't hang on. -/
theorem crG_cases (S : DS) (L : Nat) (pk : Nat → Int) (k : Nat) : S.pend k = [] → crG S L pk k = S.good k := fun h => by
  have hp : pickS S L pk k = 0 := by unfold pickS; rw [if_pos (.inl (by rw [h]; rfl))]
  unfold crG
  rw [hp]
  rfl
theorem crG_one (S : DS) (L : Nat) (pk : Nat → Int) (k : Nat) (m : List UInt8) (h : S.pend k = [m]) : crG S L pk k = S.good k ∨ crG S L pk k = m ∨ crG S L pk k = m.take 32 ++ (S.good k).drop 32 := by
  have hp : pickS S L pk k ≤ 2 := by
    unfold pickS
    split
    · exact Nat.zero_le _
    · rw [h]
      show (_ % 3 : Int).toNat ≤ 2
      omega
  unfold crG atS
  rcases Nat.lt_or_ge 0 (pickS S L pk k) with h0 | h0
  · rcases Nat.lt_or_ge 1 (pickS S L pk k) with h1 | h1
    · have e : pickS S L pk k = 2 := by omega
      rw [e, h]
      exact .inr (.inl rfl)
    · have e : pickS S L pk k = 1 := by omega
      rw [e, h]
      exact .inr (.inr rfl)
  · have e : pickS S L pk k = 0 := by omega
    rw [e]
    exact .inl rfl
theorem crI_good (S : DS) (L : Nat) (pk : Nat → Int) (k : Nat) (hk : k < S.n) : (crI S L pk S.n).good k = crG S L pk k := if_pos hk
/-- What a crash leaves is one of K. -/
def CrashOk (S : DS) (K : List Ct) : Prop := ∀ (L : Nat) (pk : Nat → Int), ∃ z, z ∈ K ∧ Holds (crI S L pk S.n).good S.n z
theorem crash_calm {S : DS} {x : Ct} (hp : ∀ k, k < S.n → S.pend k = []) (H : Holds S.good S.n x) (L : Nat) (pk : Nat → Int) : Holds (crI S L pk S.n).good S.n x :=
  H.congr fun k hk => by rw [crI_good _ _ _ _ hk, crG_cases _ _ _ _ (hp k hk)]
/-- Off while pieces are being written: what a crash leaves is x. -/
theorem crash_wr {S T : DS} {c j : Nat} {b : List UInt8} {x : Ct} (hc : c = x.2 + 1) (H : Holds S.good S.n x) (hw : WrOk S T c b j) (hg : ∀ k, k < S.n → (S.good k).length = 64) (hj : j ≤ pcs b.length) (hb : b.length ≤ roomN S.n) (L : Nat) (pk : Nat → Int) : Holds (crI T L pk T.n).good T.n x := by
  rw [hw.n]
  have h1 := H.n1
  have no : ∀ k, (∀ i, k ≠ placeN c i) → T.pend k = [] := fun k h => by rw [hw.pend, if_neg (fun ⟨i, _, e⟩ => h i e)]
  have gd : ∀ k, k < S.n → (crI T L pk S.n).good k = crG T L pk k := fun k hk => if_pos hk
  refine H.other ?_ (fun i hi => ?_) (fun k hk => ?_)
  · rw [gd 0 (by omega), crG_cases _ _ _ _ (no 0 fun i e => place_pos c i e.symm), hw.good]
  · rw [gd _ (room_pcs H.n2 H.room hi _).1, crG_cases _ _ _ _ (no _ fun i' e => by rw [hc] at e; exact place_other _ _ _ e), hw.good]
  · rw [gd k hk]
    by_cases h : ∃ i, i < j ∧ k = placeN c i
    · obtain ⟨i, hi, rfl⟩ := h
      have hl := markedL_len _ (pieceL_len b i)
      rcases crG_one T L pk _ _ (hw.at_ i hi) with e | e | e
      · rw [e, hw.good]; exact H.ok _ hk
      · rw [e]; exact okB_marked _
      · rw [e]; exact okB_torn _ _ (by simp [markedL, markB]) hl
    · rw [crG_cases _ _ _ _ (by rw [hw.pend, if_neg h]), hw.good]
      exact H.ok k hk
theorem nowS_pend (S : DS) (k : Nat) : S.pend k = [] → nowS S k = S.good k := fun h => by unfold nowS atS; rw [h]; rfl
theorem nowS_one (S : DS) (k : Nat) (m : List UInt8) : S.pend k = [m] → nowS S k = m := fun h => by unfold nowS atS; rw [h]; rfl
/-- All pieces written, and flushed: x is there, and beside it b. -/
theorem flush_wr {S T : DS} {c : Nat} {b : List UInt8} {x : Ct} (hc : c = x.2 + 1) (H : Holds S.good S.n x) (hw : WrOk S T c b (pcs b.length)) (hb : b.length ≤ roomN S.n) (g : Nat → List UInt8) (e : ∀ k, k < S.n → g k = nowS T k) :
    Holds g S.n x ∧ ∀ i, i < pcs b.length → g (placeN c i) = markedL (pieceL b i) := by
  have h1 := H.n1
  have no : ∀ k, (∀ i, k ≠ placeN c i) → nowS T k = S.good k := fun k h => by rw [nowS_pend _ _ (by rw [hw.pend, if_neg (fun ⟨i, _, e⟩ => h i e)]), hw.good]
  refine ⟨H.other ?_ (fun i hi => ?_) (fun k hk => ?_), fun i hi => ?_⟩
  · rw [e 0 (by omega), no 0 fun i e => place_pos c i e.symm]
  · rw [e _ (room_pcs H.n2 H.room hi _).1, no _ fun i' e => by rw [hc] at e; exact place_other _ _ _ e]
  · rw [e k hk]
    by_cases h : ∃ i, i < pcs b.length ∧ k = placeN c i
    · obtain ⟨i, hi, rfl⟩ := h
      rw [nowS_one _ _ _ (hw.at_ i hi)]
      exact okB_marked _
    · rw [nowS_pend _ _ (by rw [hw.pend, if_neg h]), hw.good]
      exact H.ok k hk
  · rw [e _ (room_pcs H.n2 hb hi _).1, nowS_one _ _ _ (hw.at_ i hi)]
/-- The head behind that: b is there. -/
theorem Holds.next {g h : Nat → List UInt8} {n c : Nat} {b : List UInt8} {x : Ct} (H : Holds g n x) (hc : c = x.2 + 1) (hx : x.2 ≤ 900000) (hb : b.length ≤ roomN n) (hat : ∀ i, i < pcs b.length → g (placeN c i) = markedL (pieceL b i)) (h0 : h 0 = headL c b.length) (e : ∀ k, k < n → k ≠ 0 → h k = g k) : Holds h n (b, c) := by
  refine ⟨H.n1, H.n2, ?_, hb, by omega, fun h => by omega, fun i hi => ?_, fun k hk => ?_⟩
  · rw [h0]
    unfold headB
    rw [if_neg (by show ¬ c = 0; omega)]
  · show h (placeN c i) = _
    rw [e _ (room_pcs H.n2 hb hi _).1 (place_pos _ _)]
    exact hat i hi
  · by_cases h1 : k = 0
    · rw [h1, h0]; exact okB_head _ _
    · rw [e k hk h1]; exact H.ok k hk
theorem headL_drop (c s : Nat) : (headL c s).drop 32 = List.replicate 32 0 := by
  have h : (bigB c 8 ++ bigB s 8).length = 16 := by simp [bigB_length]
  unfold headL
  generalize bigB c 8 ++ bigB s 8 = l at *
  have h2 : (markB ++ l).length = 24 := by simp [markB, h]
  unfold markedL
  rw [h, List.drop_append, h2, List.drop_eq_nil_of_le (by omega), List.nil_append, List.drop_replicate]
theorem headB_drop (x : Ct) : (headB x).drop 32 = List.replicate 32 0 := by
  unfold headB
  split
  · unfold zeroB; rw [List.drop_replicate]
  · exact headL_drop _ _
/-- A torn head is the new one: neither has anything behind. -/
theorem head_torn (c s : Nat) (x : Ct) : (headL c s).take 32 ++ (headB x).drop 32 = headL c s := by
  rw [headB_drop, ← headL_drop c s, List.take_append_drop]
/-- Off while the head is pending: what a crash leaves is x, or b. -/
theorem crash_head {g : Nat → List UInt8} {T : DS} {c : Nat} {b : List UInt8} {x : Ct} (hc : c = x.2 + 1) (hx : x.2 ≤ 900000) (H : Holds g T.n x) (hb : b.length ≤ roomN T.n) (hat : ∀ i, i < pcs b.length → g (placeN c i) = markedL (pieceL b i))
    (hg : ∀ k, k < T.n → T.good k = g k) (hp : ∀ k, k ≠ 0 → T.pend k = []) (h0 : T.pend 0 = [headL c b.length]) : CrashOk T [x, (b, c)] := fun L pk => by
  have h1 := H.n1
  have gd : ∀ k, k < T.n → (crI T L pk T.n).good k = crG T L pk k := fun k hk => if_pos hk
  have rest : ∀ k, k < T.n → k ≠ 0 → (crI T L pk T.n).good k = g k := fun k hk hk0 => by rw [gd k hk, crG_cases _ _ _ _ (hp k hk0), hg k hk]
  have new : (crI T L pk T.n).good 0 = headL c b.length → Holds (crI T L pk T.n).good T.n (b, c) := fun e => H.next hc hx hb hat e rest
  rcases crG_one T L pk 0 _ h0 with e | e | e
  · refine ⟨x, by simp, H.congr fun k hk => ?_⟩
    by_cases hk0 : k = 0
    · rw [hk0, gd 0 (by omega), e, hg 0 (by omega)]
    · exact rest k hk hk0
  · exact ⟨(b, c), by simp, new (by rw [gd 0 (by omega), e])⟩
  · refine ⟨(b, c), by simp, new ?_⟩
    rw [gd 0 (by omega), e, hg 0 (by omega), H.head]
    exact head_torn _ _ _
end Go.Proofs.Ytefabimolfcllaa

/- Rows one behind the other: flat.Cat, missivealike.Cat. -/
set_option linter.unusedSimpArgs false
set_option linter.unusedVariables false
namespace Go.Proofs.Ytefabimolfcllaa
open Go.RowKit Go.Deep

/-- The first j rows, one behind the other. -/
def catTo (L : List (List UInt8)) (j : Nat) : List UInt8 := (L.take j).flatten
theorem catTo_succ (L : List (List UInt8)) (j : Nat) (h : j < L.length) : catTo L (j + 1) = catTo L j ++ L[j] := by
  unfold catTo
  rw [List.take_succ_eq_append_getElem h, List.flatten_append]
  simp
theorem catTo_all (L : List (List UInt8)) (j : Nat) (h : L.length ≤ j) : catTo L j = L.flatten := by
  unfold catTo; rw [List.take_of_length_le h]
theorem catTo_le (L : List (List UInt8)) (j : Nat) : (catTo L j).length ≤ L.flatten.length := by
  have : L.flatten = catTo L j ++ (L.drop j).flatten := by unfold catTo; rw [← List.flatten_append, List.take_append_drop]
  rw [this, List.length_append]; omega

set_option maxHeartbeats 800000 in
theorem cat_any (v : Value) (L : List (List UInt8)) (w : World) (hv : Bss w v L) (hlen : L.flatten.length ≤ 2147483647) :
    Calls Try.prog 62 #[v] w fun e w' => ∃ v', e = .returned v' ∧ Owns w' w.heap.size v' L.flatten ∧ Below w.heap.size w w' := by
  have HV := Lib.hid hv
  obtain ⟨a, cap, rfl, h1, h2, h3, h4⟩ := hv
  clear h3 h4
  unfold maxLen at h2
  obtain ⟨i0, hi, hz0, hz1, hz2⟩ := info_parts Try.info5
  go_enter Try.func62, Try.ntmps62
  go_wp2
  go_loop [3, 11] (fun s i => ∃ j : Nat, j ≤ L.length ∧ i = .int .i64 j ∧ s = .int .i64 ((catTo L j).length : Nat)) (fun _ i => L.length - (intOf i).toNat)
  case atStart => exact ⟨0, Nat.zero_le _, rfl, rfl⟩
  case round =>
    obtain ⟨j, hj, rfl, rfl⟩ := hrel
    by_cases hlt : j < L.length
    · have hle := catTo_le L (j + 1)
      have hsucc := congrArg List.length (catTo_succ L j hlt)
      rw [List.length_append] at hsucc
      have hle2 : (catTo L j).length + L[j].length ≤ 2147483647 := by omega
      have HS := Lib.hid hsucc
      clear hsucc hle
      obtain ⟨b, off, cap', he, _, _, _, hc⟩ := HV.out.open_cons (by omega)
      cases he
      obtain ⟨u, hcj, hu⟩ := hc j hlt
      clear hc
      obtain ⟨au, cu, rfl, _, _, _, _⟩ := hu
      go_wp2
      go_round
      case rel => exact ⟨j + 1, by omega, by go_num, by rw [HS.out]; go_num⟩
      case measure => simp [intOf]; omega
    · obtain rfl : j = L.length := by omega
      have hall := catTo_all L L.length (Nat.le_refl _)
      rw [hall]
      clear hall
      generalize hn : L.flatten.length = n at *
      have HN := Lib.hid hn
      clear hn
      go_wp2_with (refine wpList_make_own _ rfl _ _ 28 rfl w.heap.size 5 i0 (.int .u8 0) 1 Try.underlying28 hi hz0 hz1 .i64 .i64 _ n rfl rfl rfl (by rw [hz2]; omega) (by unfold maxLen; omega) (Nat.le_refl _) ?_; intro w1 hown1 hgrow1)
      have hO : Owns w1 w.heap.size (.slice (some ⟨w.heap.size, 0, none⟩) 0 n) [] := hown1
      have hB1 : Below w.heap.size w w1 := (Below.refl _ _).grown hgrow1 (Nat.le_refl _) (fun k hk => by cases hk)
      clear hown1 hgrow1
      go_loopw [6, 24] (fun v i wr => ∃ j : Nat, j ≤ L.length ∧ i = .int .i64 j ∧ Owns wr w.heap.size v (catTo L j) ∧ Below w.heap.size w wr) (fun _ i _ => L.length - (intOf i).toNat)
      case atStart => exact ⟨0, Nat.zero_le _, rfl, hO, hB1⟩
      case round =>
        obtain ⟨j, hj, rfl, hown, hbel⟩ := hrel
        clear hO hB1
        by_cases hlt : j < L.length
        · have hsum : (catTo L j).length + L[j].length ≤ n := by
            have := catTo_le L (j + 1)
            rw [catTo_succ L j hlt, List.length_append] at this
            have := HN.out
            omega
          obtain ⟨b, off, cap', he, _, _, hbl, hc⟩ := HV.out.open_cons (by omega)
          cases he
          obtain ⟨u, hcj, hu⟩ := hc j hlt
          clear hc
          have hcr : wr.cell? ⟨b, off + j, none⟩ = some u := (hbel.cell (by exact hbl)).trans hcj
          have hur : Bs wr u L[j] := hu.below hbel (Nat.le_refl _)
          have HU := Lib.hid hur
          obtain ⟨au, cu, rfl, _, _, _, _⟩ := hu
          clear hur
          go_wp2_with (refine wpList_app rfl _ _ rfl w.heap.size _ _ (catTo L j) L[j] hown HU.out rfl rfl (by omega) (by have := hbel.size; omega) ?_; intro v2 w2 hown2 hgrow2)
          have hown3 : Owns w2 w.heap.size v2 (catTo L (j + 1)) := by rw [catTo_succ L j hlt]; exact hown2
          have hbel3 : Below w.heap.size w w2 := hbel.grown hgrow2 hbel.size (Owns.block hown)
          clear hown2 hgrow2 hown hbel hcr HU hsum
          go_wp2
          go_roundw
          case rel => exact ⟨j + 1, by omega, by go_num, hown3, hbel3⟩
          case measure => simp [intOf]; omega
        · obtain rfl : j = L.length := by omega
          go_wp2
          go_ret
          exact ⟨_, rfl, by rw [← catTo_all L L.length (Nat.le_refl _)]; exact hown, hbel⟩
end Go.Proofs.Ytefabimolfcllaa

/- Digits: flat.Hex, missiveref1.Hex. -/
set_option linter.unusedSimpArgs false
set_option linter.unusedVariables false
namespace Go.Proofs.Ytefabimolfcllaa
open Go.RowKit Go.Deep

end Go.Proofs.Ytefabimolfcllaa

/- flat.Equal; missivealike.Cat; missivelaw1.awake. -/
set_option linter.unusedSimpArgs false
set_option linter.unusedVariables false
namespace Go.Proofs.Ytefabimolfcllaa
open Go.RowKit Go.Deep

set_option maxHeartbeats 400000 in
theorem bytesEqual_any (v1 v2 : Value) (l1 l2 : List UInt8) (w : World) (h1 : Bs w v1 l1) (h2 : Bs w v2 l2) :
    Calls Try.prog 56 #[v1, v2] w fun e w' => e = .returned (.bool (l1 == l2)) ∧ w' = w := by
  have c1 := h1.conv
  have c2 := h2.conv
  clear h1 h2
  go_enter Try.func56, Try.ntmps56
  go_wp2
  go_ret
  exact ⟨rfl, rfl⟩

set_option maxHeartbeats 400000 in
theorem equal_any (v1 v2 : Value) (l1 l2 : List UInt8) (w : World) (h1 : Bs w v1 l1) (h2 : Bs w v2 l2) :
    Calls Try.prog 50 #[v1, v2] w fun e w' => e = .returned (.bool (l1 == l2)) ∧ w' = w := by
  go_enter Try.func50, Try.ntmps50
  go_wp2_with fail
  refine (bytesEqual_any v1 v2 l1 l2 _ h1 h2).mono ?_
  rintro e w' ⟨rfl, rfl⟩
  go_wp2
  go_ret
  exact ⟨rfl, rfl⟩

end Go.Proofs.Ytefabimolfcllaa

/- The program's store: the device's contracts in one form; Room, device, safe, place, noughts, HasPrefix, marked. -/
namespace Go.Proofs.Ytefabimolfcllaa
open Go.RowKit Go.Deep
set_option linter.unusedSimpArgs false
set_option linter.unusedVariables false

theorem dv_sub : ∀ T D w y S, BkAt T D w y S → ∀ b, T b → D b := fun T D w y S h b hb => by
    obtain ⟨g, b', c, pv, pb, rc, rl, N, r_y, hm, hN, hl, hT, hD⟩ := h
    exact (hD b).2 ((hT b).1 hb)
theorem dv_lt : ∀ T D w y S, BkAt T D w y S → ∀ b, D b → b < w.heap.size := fun T D w y S h => h.below
theorem dv_stay : ∀ T D F w w' y S, BkAt T D w y S → Sam F w w' → (∀ b, F b → ¬ D b) → BkAt T D w' y S := fun T D F w w' y S h k hF => by
    obtain ⟨g, b', c, pv, pb, rc, rl, N, r_y, hm, hN, hl, hT, hD⟩ := h
    exact ⟨g, b', c, pv, pb, rc, rl, N, Sam.row r_y k fun hf => hF y hf ((hD y).2 (.inl rfl)), hm.sam k fun x hx => .inr fun ho => hF x hx ((hD x).2 ho), hN, hl, hT, hD⟩
theorem dv_read : ∀ T D w y S B (k : Int), BkAt T D w y S → okD S B → B ≤ 100000 → Calls Try.prog 41 #[.pointer (some ⟨y, 0, none⟩), .int .i64 k] w fun e w' => ∃ v, e = .returned (.tuple #[v, .int .i64 (if 0 ≤ k ∧ k < (S.n : Int) then 0 else 1)]) ∧ Bs w' v (if 0 ≤ k ∧ k < (S.n : Int) then nowS S k.toNat else []) ∧ Below w.heap.size w w' := fun T D w y S B k h hs hB => by
    obtain ⟨g, b', c, pv, pb, rc, rl, N, r_y, hm, hN, hl, hT, hD⟩ := h
    by_cases hk : 0 ≤ k ∧ k < (S.n : Int)
    · rw [if_pos hk, if_pos hk]
      obtain ⟨kn, rfl⟩ : ∃ kn : Nat, k = (kn : Int) := ⟨k.toNat, by omega⟩
      have := hs.cnt kn
      exact read_raw y g b' S.n c S.ops rc rl S.off w r_y hm kn (by omega) (by omega) (nowS_len hs kn (by omega))
    · rw [if_neg hk, if_neg hk]
      refine (read_out y g b' S.n c S.ops rc rl S.off w r_y k (by simpa using hk)).mono ?_
      rintro e w' ⟨rfl, rfl⟩
      exact ⟨_, rfl, Bs.nil _, Below.refl _ _⟩
theorem dv_flush : ∀ T D w y S B, BkAt T D w y S → okD S B → B ≤ 100000 → Calls Try.prog 27 #[.pointer (some ⟨y, 0, none⟩)] w fun e w' => e = .returned (.int .i64 (flE S)) ∧ BkNew BkAt T D w y (flT S) w' := fun T D w y S B h hs hB => by
    unfold flE flT
    cases ho : opOk S with
    | true => exact flush_ok T D w y S B h hs hB ho
    | false =>
      rw [if_neg (by decide), if_neg (by decide)]
      refine (flush_off T D w y S B h hs hB ho).mono ?_
      rintro e w' ⟨rfl, h2, h3⟩
      exact ⟨rfl, T, D, h2, h3.one h.ty, fun _ h => .inl h, fun _ h => .inl h⟩
theorem dv_cut : ∀ T D w y S (x : Int), BkAt T D w y S → Calls Try.prog 19 #[.pointer (some ⟨y, 0, none⟩), .int .i64 x] w fun e w' => e = .returned (.tuple #[]) ∧ BkNew BkAt T D w y (cutS S x) w' := fun T D w y S x h => by
    have hty := h.ty
    obtain ⟨g, b', c, pv, pb, rc, rl, N, r_y, hm, hN, hl, hT, hD⟩ := h
    cases ho : S.off with
    | true =>
      refine (cut_off y g b' S.n c S.ops rc rl S.off w r_y hm.n1 ho x).mono ?_
      rintro e w' ⟨rfl, rfl⟩
      exact ⟨rfl, T, D, ⟨g, b', c, pv, pb, rc, rl, N, r_y, hm, hN, ⟨fun _ => hl.1 ho, fun h => (by rw [show (cutS S x).off = S.off from rfl, ho] at h; cases h)⟩, hT, hD⟩, Sam.refl _ _, fun _ h => .inl h, fun _ h => .inl h⟩
    | false =>
      refine (cut_on y g b' S.n c S.ops rc rl S.off w r_y hm.n1 ho x).mono ?_
      rintro e w' ⟨rfl, r2, k2⟩
      refine ⟨rfl, T, D, ⟨g, b', c, pv, pb, true, if x < 0 then 0 else x, N, ?_, hm.sam k2 fun z hz => .inl hz, hN, ⟨fun h => (by rw [show (cutS S x).off = S.off from rfl, ho] at h; cases h), fun _ => ⟨rfl, fun _ => rfl⟩⟩, hT, hD⟩, k2.one hty, fun _ h => .inl h, fun _ h => .inl h⟩
      show w'.rowIs y 62 6 (devF (.slice (some ⟨g, 0, none⟩) S.n c) (.map (some b')) S.ops true (if x < 0 then 0 else x) S.off)
      rw [ho]
      exact r2
theorem dv_crash : ∀ T D w y S B L (pk : Nat → Int) vp, BkAt T D w y S → okD S B → B ≤ 100000 → Vs w vp L (fun i => .int .i64 (pk i)) → L ≤ 1000 → (∀ i, i < L → (Lit.int .i64 (pk i)).wf = true) → Calls Try.prog 17 #[.pointer (some ⟨y, 0, none⟩), vp] w fun e w' => BkMade BkAt T D w (crI S L pk S.n) e w' := fun T D w y S B L pk vp h hs hB hv hL hw => by
    obtain ⟨g, b', c, pv, pb, rc, rl, N, r_y, hm, hN, hl, hT, hD⟩ := h
    refine (crash_raw y g b' c N B rc rl S w pv pb L pk vp r_y hm hs hB (by have := hs.ops; omega) hv hL hw).mono ?_
    rintro e w' ⟨y2, g2, b2, c2, rfl, r2, q1, q2, n1, n2, n3, l1, l2, l3, kk⟩
    have hown := new_own (n := S.n) (pb := fun _ => 0) (pend := (crI S L pk S.n).pend) l1 l2 l3 (fun _ => rfl)
    exact ⟨y2, _, _, rfl, made_at (S := crI S L pk S.n) hs.n1 hs.n r2 q1 q2 n1 n2 n3 (fun _ => rfl) rfl rfl rfl, kk, hown, fun b hb => .inr (hown b hb)⟩
theorem dv_len : ∀ T D w y S B, BkAt T D w y S → okD S B → Calls Try.prog 24 #[.pointer (some ⟨y, 0, none⟩)] w fun e w' => e = .returned (.int .i64 (S.n : Int)) ∧ Below w.heap.size w w' := fun T D w y S B h hs => by
    obtain ⟨g, b', c, pv, pb, rc, rl, N, r_y, hm, hN, hl, hT, hD⟩ := h
    exact (len_any y g b' S.n c S.ops rc rl S.off w r_y).mono fun e w' ⟨h1, h2⟩ => ⟨h1, by rw [h2]; exact Below.refl _ _⟩
theorem dv_off : ∀ T D w y S B, BkAt T D w y S → okD S B → Calls Try.prog 34 #[.pointer (some ⟨y, 0, none⟩)] w fun e w' => e = .returned (.bool S.off) ∧ Below w.heap.size w w' := fun T D w y S B h hs => by
    obtain ⟨g, b', c, pv, pb, rc, rl, N, r_y, hm, hN, hl, hT, hD⟩ := h
    exact (off_any y g b' S.n c S.ops rc rl S.off w r_y hm.n1).mono fun e w' ⟨h1, h2⟩ => ⟨h1, by rw [h2]; exact Below.refl _ _⟩
theorem dv_offN : ∀ w, Calls Try.prog 34 #[.pointer none] w fun e w' => e = .returned (.bool true) ∧ Below w.heap.size w w' := fun w => (offN_any w).mono fun e w' ⟨h1, h2⟩ => ⟨h1, by rw [h2]; exact Below.refl _ _⟩
theorem dv_lenN : ∀ w, Calls Try.prog 24 #[.pointer none] w fun e w' => e = .returned (.int .i64 0) ∧ Below w.heap.size w w' := fun w => (lenN_any w).mono fun e w' ⟨h1, h2⟩ => ⟨h1, by rw [h2]; exact Below.refl _ _⟩
theorem dv_crashN (w : World) (vp : Value) : Calls Try.prog 17 #[.pointer none, vp] w fun e w' => e = .returned (.pointer none) ∧ Below w.heap.size w w' := (crashN_any w vp).mono fun e w' ⟨h1, h2⟩ => ⟨h1, by rw [h2]; exact Below.refl _ _⟩
theorem crG_none (S : DS) (pk : Nat → Int) (k : Nat) : crG S 0 pk k = S.good k := by
  have hp : pickS S 0 pk k = 0 := by unfold pickS; rw [if_pos (.inr rfl)]
  unfold crG
  rw [hp]
  rfl
theorem crash_okD {S : DS} {B : Nat} (h : okD S B) (L : Nat) (pk : Nat → Int) : okD (crI S L pk S.n) B := by
  refine ⟨Nat.zero_le _, h.n1, h.n, rfl, fun k hk => ?_, fun k hk l hl => (by cases hl), fun k => Nat.zero_le _⟩
  have hk' : k < S.n := hk
  rw [crI_good _ _ _ _ hk']
  have ha : ∀ j, (atS S k j).length = 64 ∨ (S.pend k).length < j := fun j => by
    unfold atS
    split
    · exact .inl (h.good k hk')
    · rename_i h0
      rcases Nat.lt_or_ge (S.pend k).length j with h1 | h1
      · exact .inr h1
      · refine .inl ?_
        have hl : j - 1 < (S.pend k).length := by omega
        rw [List.getD_eq_getElem?_getD, List.getElem?_eq_getElem hl]
        exact h.pend k hk' _ (List.getElem_mem _)
  have hpk : pickS S L pk k ≤ 2 * (S.pend k).length := by
    unfold pickS
    split
    · exact Nat.zero_le _
    · have := Int.emod_lt_of_pos (pk (cntS S.pend k % L)) (b := 2 * ((S.pend k).length : Int) + 1) (by omega)
      omega
  have h2 : (atS S k (pickS S L pk k / 2)).length = 64 := (ha _).resolve_right (by omega)
  unfold crG
  split
  · rename_i ho
    have hl : pickS S L pk k / 2 < (S.pend k).length := by omega
    rw [List.length_append, List.length_take, List.length_drop, h2, List.getD_eq_getElem?_getD, List.getElem?_eq_getElem hl]
    show min 32 ((S.pend k)[pickS S L pk k / 2]).length + _ = 64
    rw [h.pend k hk' _ (List.getElem_mem _)]
    rfl
  · exact h2
/-- A store's cells; a head's. -/
def stF (d : Value) (b : Bool) : Nat → Value := fun i => if i = 0 then d else .bool b
def hdF (c s : Nat) : Nat → Value := fun i => if i = 0 then .int .i64 (c : Int) else .int .i64 (s : Int)
theorem isHead : IsArr Try.prog 71 2 := ⟨by kernel_rfl, by kernel_rfl⟩
theorem zeroHead : (Try.prog.info? 71).map (fun i => i.zero) = some (some (.agg (arrOf 2 (hdF 0 0)))) := by kernel_rfl
theorem builtHead0 : Try.prog.built 71 [] = some (arrOf 2 (hdF 0 0)) := by kernel_rfl
theorem builtHead (c s : Nat) : Try.prog.built 71 [(0, .int .i64 (c : Int)), (1, .int .i64 (s : Int))] = some (arrOf 2 (hdF c s)) := by kernel_rfl
theorem builtStore (a : Option Addr) : Try.prog.built 52 [(0, .pointer a)] = some (arrOf 2 (stF (.pointer a) false)) := by kernel_rfl
theorem vs_none (w : World) (f : Nat → Value) : Vs w (.slice none 0 0) 0 f := ⟨none, 0, rfl, Nat.le_refl _, by simp [maxLen], fun _ => rfl, fun x h => by cases h⟩
set_option maxHeartbeats 4000000 in
set_option maxRecDepth 20000 in
theorem roomS_any (n : Nat) (w : World) (hn : n ≤ 65536) : Calls Try.prog 14 #[.int .i64 (n : Int)] w fun e w' => e = .returned (.int .i64 (roomN n : Int)) ∧ w' = w := by
  unfold roomN
  by_cases h : n < 64
  · rw [if_pos h]
    have h1 : (n : Int) < 64 := by omega
    clear h hn
    go_enter Try.func14, Try.ntmps14
    go_wp2
    go_ret
    exact ⟨rfl, rfl⟩
  · rw [if_neg h]
    have h1 : ¬ (n : Int) < 64 := by omega
    have h2 : IntKind.i64.wrap (20 * (n : Int)) = ((20 * n : Nat) : Int) := by rw [IntWalk.i64_in _ (by omega)]; omega
    clear h hn
    go_enter Try.func14, Try.ntmps14
    go_wp2
    go_ret
    exact ⟨rfl, rfl⟩
set_option maxHeartbeats 4000000 in
set_option maxRecDepth 20000 in
theorem device_any (sp dp : Nat) (dead : Bool) (w : World) (r_s : w.rowIs sp 52 2 (stF (.pointer (some ⟨dp, 0, none⟩)) dead)) : Calls Try.prog 23 #[.pointer (some ⟨sp, 0, none⟩)] w fun e w' => e = .returned (.pointer (some ⟨dp, 0, none⟩)) ∧ w' = w := by
  go_enter Try.func23, Try.ntmps23
  go_wp2_with (first
    | (refine wpList_loadG 24 (.tmp 7) rfl rfl (.pointer (some ⟨dp, 0, none⟩)) r_s rfl (by omega) rfl (by kernel_rfl) ?_))
  go_ret
  exact ⟨rfl, rfl⟩
theorem deviceN_any (w : World) : Calls Try.prog 23 #[.pointer none] w fun e w' => e = .returned (.pointer none) ∧ w' = w := by
  go_enter Try.func23, Try.ntmps23
  go_wp2
  go_ret
  exact ⟨rfl, rfl⟩
set_option maxHeartbeats 4000000 in
set_option maxRecDepth 20000 in
theorem safe_any (T D : Nat → Prop) (w : World) (dp B : Nat) (S : DS) (h : BkAt T D w dp S) (hs : okD S B) (hB : B ≤ 100000) (hp : S.off = false → ∀ k, S.pend k = []) : Calls Try.prog 35 #[.pointer (some ⟨dp, 0, none⟩)] w fun e w' => ∃ y T' D' S', e = .returned (.pointer (some ⟨y, 0, none⟩)) ∧ BkAt T' D' w' y S' ∧ okD S' B ∧ S'.n = S.n ∧ (∀ k, k < S.n → nowS S' k = S.good k) ∧ Below w.heap.size w w' := by
  have HS := Lib.hid hs
  have HB := Lib.hid hB
  have HH := Lib.hid h
  cases ho : S.off with
  | false =>
    have HP := Lib.hid (hp ho)
    have HO := Lib.hid ho
    have Bw0 := Below.refl w.heap.size w
    clear hs hB h hp ho
    go_enter Try.func35, Try.ntmps35
    go_wp2_with (first
      | (have hgo := Bw0; clear hgo
         go_at_call 34
         refine (dv_off T D _ dp S B HH.out HS.out).mono ?_
         rintro e w1 ⟨rfl, kk⟩
         rw [HO.out]
         have HQ := Lib.hid (dv_stay T D (fun _ => False) _ _ _ _ HH.out (Sam.of_below kk) (fun _ h => h.elim))
         have Bw1 := Bw0.trans kk
         clear Bw0 kk))
    go_ret
    exact ⟨dp, T, D, S, rfl, HQ.out, HS.out, rfl, fun k _ => nowS_pend _ _ (HP.out k), Bw1⟩
  | true =>
    have HO := Lib.hid ho
    have Bw0 := Below.refl w.heap.size w
    clear hs hB h hp ho
    go_enter Try.func35, Try.ntmps35
    go_wp2_with (first
      | (have hgo := Bw0; clear hgo
         go_at_call 34
         refine (dv_off T D _ dp S B HH.out HS.out).mono ?_
         rintro e w1 ⟨rfl, kk⟩
         rw [HO.out]
         have HQ := Lib.hid (dv_stay T D (fun _ => False) _ _ _ _ HH.out (Sam.of_below kk) (fun _ h => h.elim))
         have Bw1 := Bw0.trans kk
         clear Bw0 kk)
      | (have hgo := Bw1; clear hgo
         go_at_call 17
         refine (dv_crash T D _ dp S B 0 (fun _ => 0) (.slice none 0 0) HQ.out HS.out HB.out (vs_none _ _) (by omega) (fun i h => absurd h (Nat.not_lt_zero _))).mono ?_
         rintro e w2 ⟨y2, T2, D2, rfl, hb, kk, h1, h2⟩
         have HQ2 := Lib.hid hb
         have Bw2 := Bw1.trans (kk.mono Bw1.size)
         clear Bw1 kk hb h1 h2))
    go_ret
    refine ⟨y2, T2, D2, _, rfl, HQ2.out, crash_okD HS.out _ _, rfl, fun k hk => ?_, Bw2⟩
    rw [nowS_pend _ _ rfl, crI_good _ _ _ _ hk, crG_none]
theorem safeN_any (w : World) : Calls Try.prog 35 #[.pointer none] w fun e w' => e = .returned (.pointer none) ∧ Below w.heap.size w w' := by
  have Bw0 := Below.refl w.heap.size w
  go_enter Try.func35, Try.ntmps35
  go_wp2_with (first
    | (have hgo := Bw0; clear hgo
       go_at_call 34
       refine (dv_offN _).mono ?_
       rintro e w1 ⟨rfl, kk⟩
       have Bw1 := Bw0.trans kk
       clear Bw0 kk)
    | (have hgo := Bw1; clear hgo
       go_at_call 17
       refine (dv_crashN _ _).mono ?_
       rintro e w2 ⟨rfl, kk⟩
       have Bw2 := Bw1.trans (kk.mono Bw1.size)
       clear Bw1 kk))
  go_ret
  exact ⟨rfl, Bw2⟩
set_option maxHeartbeats 4000000 in
set_option maxRecDepth 20000 in
theorem place_any (c s i : Nat) (w : World) (hc : c ≤ 2000000) (hi : i ≤ 100000) : Calls Try.prog 51 #[.agg (arrOf 2 (hdF c s)), .int .i64 (i : Int)] w fun e w' => e = .returned (.int .i64 (placeN c i : Int)) ∧ Below w.heap.size w w' := by
  have e1 : IntKind.i64.wrap (2 * (i : Int)) = ((2 * i : Nat) : Int) := by rw [IntWalk.i64_in _ (by omega)]; omega
  have e2 : IntKind.i64.wrap (1 + ((2 * i : Nat) : Int)) = ((1 + 2 * i : Nat) : Int) := by rw [IntWalk.i64_in _ (by omega)]; omega
  obtain ⟨r, hr⟩ : ∃ r, r = c % 2 := ⟨_, rfl⟩
  have hr2 : r < 2 := by omega
  have RM : Hid ((c : Int).tmod 2 = (r : Int)) := Lib.hid (by rw [Int.tmod_eq_emod_of_nonneg (by omega), hr]; rfl)
  obtain ⟨a, ha⟩ : ∃ a, a = 1 + 2 * i := ⟨_, rfl⟩
  obtain ⟨a2, ha2⟩ : ∃ a, a = 2 * i := ⟨_, rfl⟩
  rw [← ha2] at e1 e2
  rw [← ha2] at ha
  rw [← ha] at e2
  have e3 : IntKind.i64.wrap ((a : Int) + (r : Int)) = ((a + r : Nat) : Int) := by rw [IntWalk.i64_in _ (by omega)]; omega
  have HE : Hid (placeN c i = a + r) := Lib.hid (by unfold placeN; omega)
  have HGS : Hid (∀ wq : World, Below w.heap.size w wq → w.heap.size ≤ wq.heap.size) := Lib.hid fun wq h => h.size
  have Bw0 := Below.refl w.heap.size w
  rw [HE.out]
  clear hr ha ha2 hr2 hc hi
  go_enter Try.func51, Try.ntmps51
  go_wp2_with (first
    | (have hgo := Bw0; clear hgo
       refine wpList_box_row rfl 71 (.tmp 0) rfl 2 (hdF c s) rfl ?_
       intro x2 w1 lx r_x2 kk
       have Bw1 := zbt HGS Bw0 kk
       clear Bw0 kk)
    | (refine wpList_loadG 3 (.tmp 8) rfl rfl (.int .i64 (c : Int)) r_x2 rfl (by omega) rfl (by kernel_rfl) ?_)
    | (have hgo := RM; clear hgo
       refine wpList_binF .rem 3 3 (.tmp 9) (.const (.int .i64 2)) rfl rfl (fun _ => rfl) (remF _ _ _ (by decide) RM.out) rfl rfl ?_
       clear RM))
  go_ret
  exact ⟨rfl, Bw1⟩
set_option maxHeartbeats 4000000 in
set_option maxRecDepth 20000 in
theorem noughts_any (v : Value) (l : List UInt8) (w : World) (hv : Bs w v l) (hl : l.length ≤ 1000000) : Calls Try.prog 42 #[v] w fun e w' => e = .returned (.bool (l == List.replicate l.length 0)) ∧ Below w.heap.size w w' := by
  obtain ⟨ad, n, cap, rfl, hn, h1, h2, hB⟩ := hv.shape
  rw [hn]
  have HB := Lib.hid hB
  have HN : Hid (n ≤ 1000000) := Lib.hid (by omega)
  have HGS : Hid (∀ wq : World, Below w.heap.size w wq → w.heap.size ≤ wq.heap.size) := Lib.hid fun wq h => h.size
  have Bw0 := Below.refl w.heap.size w
  clear hv hn h1 h2 hB hl
  go_enter Try.func42, Try.ntmps42
  go_wp2_with (first
    | (have hgo := Bw0; clear hgo
       refine wmakeO rfl (.tmp 5) rfl n rfl (by have := HN.out; omega) ?_
       intro b1 w1 lb o_b kk
       have f_b := o_b.bs
       replace HB := Lib.hid (zfb HB.out kk)
       have Bw1 := zbt HGS Bw0 kk
       clear Bw0 kk o_b lb)
    | (have hgo := Bw1; clear hgo
       go_at_call 50
       refine (equal_any _ _ l (List.replicate n 0) _ HB.out f_b).mono ?_
       rintro e w2 ⟨rfl, rfl⟩))
  go_ret
  exact ⟨rfl, Bw1⟩
end Go.Proofs.Ytefabimolfcllaa

/- The program's store: what is marked, what begins so, a head's block. -/
namespace Go.Proofs.Ytefabimolfcllaa
open Go.RowKit Go.Deep
set_option linter.unusedSimpArgs false
set_option linter.unusedVariables false

theorem stp_rowsS2 {ops : Array Oper} {Q : Exit → Act → World → Prop} {i : Nat} {r : Stp} {a : Act} {w : World} {o : Oper} (d : Nat) (x y : Operand) (ho : ops[i]? = some o) (hd : o.dst = some d) (hop : o.op = .buildSlice 94 2 #[(0, x), (1, y)]) (hw : Region.wanted o (yielded ops a.tmps) = true)
    {v1 v2 : Value} {l1 l2 : List UInt8} (h1 : Bs w v1 l1) (h2 : Bs w v2 l2) (k1 : a.eval x = v1) (k2 : a.eval y = v2) (h : ∀ w' v, Bss w' v [l1, l2] → Below w.heap.size w w' → LinT Try.prog ops Q r (a.put (some d) v) w') : wpOp Try.prog ops Q i (fun a' w' => Below w.heap.size w w' ∧ LinT Try.prog ops Q r a' w') a w :=
  have hb : Below w.heap.size w (w.alloc (.cells #[v1, v2] 28)) := (Below.refl _ _).alloc (Nat.le_refl _) _
  stp_made d _ _ _ _ ho hd hop rfl hw (exec_rowsP2 a.eval x y _ w h1 h2 k1 k2) hb (h _ _ (Bss.two h1 h2 rfl) hb)
/-- copy of a string into a row. -/
theorem exec_copyS {w : World} {b m dLen dCap : Nat} {t : TypeId} {f : Nat → Value} (hr : w.rowIs b t m f) (ρ : Operand → Value) (d s : Operand) (ty : TypeId) {l : List UInt8}
    (hd : ρ d = .slice (some ⟨b, 0, none⟩) dLen dCap) (hs : ρ s = .string ⟨l.toArray⟩) (hfit : dLen ≤ m) (hn : l.length ≤ dLen) :
    ∃ w', (execOp ρ (mkOp (.call { callee := .builtin .copy, args := #[d, s], argTypes := #[28, 9] }) ty)).run Try.prog w = .ok (.value (.int .i64 (l.length : Int))) w' ∧
      w'.rowIs b t m (putN f 0 l.length (bytesAt l)) ∧ w.grownBy w' (some b) ∧ w'.heap.size = w.heap.size := by
  have hu : Try.prog.underlying 28 = some (.slice 5) := Try.underlying28
  have hsz : (Try.prog.info? 5).map (·.size) = some 1 := by kernel_rfl
  obtain ⟨c, hc, hcs, hcf⟩ := hr
  obtain ⟨cs, hcs2⟩ : ∃ cs, cs = (List.range l.length).map (bytesAt l) := ⟨_, rfl⟩
  have hlc : cs.length = l.length := by rw [hcs2]; simp
  have hst := _root_.Go.run_storeCells_at (P := Try.prog) b 0 t cs 0 c w hc (by rw [hlc]; omega) (by
    intro v hv
    rw [hcs2] at hv
    simp only [List.mem_map] at hv
    obtain ⟨i, _, rfl⟩ := hv
    rfl)
  have hex : (((⟨l.toArray⟩ : ByteArray).extract 0 l.length).data.map fun b => Value.int .u8 (b.toNat : Int)).toList = cs := by
    rw [hcs2]
    apply List.ext_getElem
    · simp
    · intro i h1 h2
      simp [bytesAt, List.getD_eq_getElem?_getD, List.getElem?_eq_getElem (show i < l.length by simpa using h2)]
  have hmin : Nat.min l.length dLen = l.length := Nat.min_eq_left hn
  have hrun : (Builtin.copy_ #[28, 9] ty #[.slice (some ⟨b, 0, none⟩) dLen dCap, .string ⟨l.toArray⟩]).run Try.prog w = .ok (goInt l.length) (w.setRow b (c.toList.take 0 ++ cs ++ c.toList.drop (0 + cs.length)).toArray) := by
    cases hq : Try.prog.info? 5 with
    | none => simp [hq] at hsz
    | some i =>
      have hi : i.size = 1 := by simpa [hq] using hsz
      have hsl : (⟨l.toArray⟩ : ByteArray).size = l.length := by simp [ByteArray.size]
      simp [Builtin.copy_, run_underlying hu, Builtin.lenOf, Builtin.firstCells, sizeOf, typeInfo, hq, hi, hsl, hmin]
      rw [show List.take l.length (List.map (fun b : UInt8 => Value.int .u8 (b.toNat : Int)) l) = cs by rw [← hex]; simp; exact List.take_of_length_le (by simp)]
      rw [hst]
      simp
  obtain ⟨N, hN⟩ : ∃ N, N = (c.toList.take 0 ++ cs ++ c.toList.drop (0 + cs.length)).toArray := ⟨_, rfl⟩
  rw [← hN] at hrun
  refine ⟨w.setRow b N, ?_, ⟨N, setRow_heap w b _ _ t _ hc, ?_, ?_⟩, grownBy_setRow _ _ _, by simp⟩
  · simp [execOp, mkOp, resolve, invoke, builtin, hd, hs, hrun, Result.andThen, goInt]
  · rw [hN]; simp [hcs, hlc]; omega
  · intro i hi
    rw [hN, hcs2]
    unfold putN
    simp only [List.take_zero, List.nil_append, List.getElem?_toArray, List.getElem?_append, List.length_map, List.length_range]
    by_cases e2 : i < l.length
    · rw [if_pos (by omega), if_pos ⟨by omega, by omega⟩]
      simp [e2]
    · rw [if_neg (by omega), if_neg (by omega), List.getElem?_drop]
      rw [show 0 + l.length + (i - l.length) = i by omega]
      simpa using hcf i hi
theorem wcopyS {ops : Array Oper} {rest : List Oper} {o : Oper} {a : Act} {w : World} {Q : Exit → Act → World → Prop} (hgd : o.guard = none) (x y : Operand) (ho : o.op = .call { callee := .builtin .copy, args := #[x, y], argTypes := #[28, 9] })
    {b m dLen dCap : Nat} {t' : TypeId} {f : Nat → Value} (hr : w.rowIs b t' m f) {l : List UInt8} (hx : a.eval x = .slice (some ⟨b, 0, none⟩) dLen dCap) (hy : a.eval y = .string ⟨l.toArray⟩) (hfit : dLen ≤ m) (hn : l.length ≤ dLen) (n : Int) (hni : (l.length : Int) = n)
    (h : ∀ w', w'.rowIs b t' m (putN f 0 l.length (bytesAt l)) → w.grownBy w' (some b) → wpList Try.prog ops Q rest (a.put o.dst (.int .i64 n)) w') : wpList Try.prog ops Q (o :: rest) a w := by
  obtain ⟨w', hx', h1, h2, h3⟩ := exec_copyS hr a.eval x y o.type hx hy hfit hn
  rw [hni] at hx'
  exact wpList_op hgd _ o.type _ ho rfl hx' (h w' h1 h2)
theorem Owns.row {w : World} {base g n cap : Nat} {l : List UInt8} (h : Owns w base (.slice (some ⟨g, 0, none⟩) n cap) l) (hn : n = l.length) (hc : cap = n) : w.rowIs g 5 n (bytesAt l) := by
  obtain ⟨f, hr⟩ := h.rowOf
  subst hc
  exact hr.congr fun j hj => by
    have h1 := h.cellAt hn j (by omega)
    rw [hr.cell hj] at h1
    rw [Option.some.inj h1]
    simp [bytesAt, List.getD_eq_getElem?_getD, List.getElem?_eq_getElem (show j < l.length by omega)]
/-- A block of the mark, these bytes, and noughts, as a row. -/
theorem marked_row {w : World} {base b k : Nat} {X : List UInt8} {f : Nat → Value} (h : w.rowIs b 5 64 f) (hb : base ≤ b) (hX : X.length ≤ 56) (hk : k = X.length)
    (hf : ∀ i, f i = putN (putN (bytesAt (List.replicate 64 0)) 0 8 (bytesAt markB)) 8 k (bytesAt X) i) : Owns w base (.slice (some ⟨b, 0, none⟩) 64 64) (markedL X) := by
  refine Owns.of_row h hb (by unfold maxLen; omega) (markedL_len X hX) fun i hi => ?_
  have hi' : i < 64 := by rw [markedL_len X hX] at hi; exact hi
  rw [hf, hk]
  have hg : (markedL X)[i] = (markedL X).getD i 0 := by rw [List.getD_eq_getElem?_getD, List.getElem?_eq_getElem hi]; rfl
  rw [hg]
  unfold putN bytesAt markedL
  by_cases h1 : i < 8
  · rw [if_neg (by omega), if_pos (by omega)]
    simp only [List.append_assoc, List.getD_eq_getElem?_getD]
    rw [List.getElem?_append_left (by simp [markB]; omega)]
    simp
  · by_cases h2 : i < 8 + X.length
    · rw [if_pos ⟨by omega, by omega⟩]
      simp only [List.append_assoc, List.getD_eq_getElem?_getD]
      rw [List.getElem?_append_right (by simp [markB]; omega), List.getElem?_append_left (by simp [markB]; omega)]
      simp [markB]
    · rw [if_neg (by omega), if_neg (by omega)]
      simp only [List.append_assoc, List.getD_eq_getElem?_getD]
      rw [List.getElem?_append_right (by simp [markB]; omega), List.getElem?_append_right (by simp [markB]; omega), List.getElem?_replicate, List.getElem?_replicate]
      rw [if_pos (by omega), if_pos (by simp [markB]; omega)]
set_option maxHeartbeats 4000000 in
set_option maxRecDepth 20000 in
theorem marked_any (v : Value) (L : List (List UInt8)) (w : World) (hv : Bss w v L) (hl : L.flatten.length ≤ 56) : Calls Try.prog 53 #[v] w fun e w' => ∃ v', e = .returned v' ∧ Owns w' w.heap.size v' (markedL L.flatten) ∧ Below w.heap.size w w' := by
  have HV := Lib.hid hv
  have HL := Lib.hid hl
  have HGS : Hid (∀ wq : World, Below w.heap.size w wq → w.heap.size ≤ wq.heap.size) := Lib.hid fun wq h => h.size
  have Bw0 := Below.refl w.heap.size w
  clear hv hl
  go_enter Try.func53, Try.ntmps53
  go_wp2_with (first
    | (have hgo := Bw0; clear hgo
       refine wmakeO rfl (.const (.int .i64 64)) rfl 64 rfl (by omega) ?_
       intro b1 w1 lb o_b kk
       have r_1 := o_b.row (by simp) rfl
       have L_b := zrl HGS Bw0 lb
       have HV1 := Lib.hid (HV.out.below kk (Nat.le_refl _))
       have HB1 : Hid (w.heap.size ≤ b1) := Lib.hid lb
       have Bw1 := zbt HGS Bw0 kk
       clear Bw0 kk o_b lb)
    | (have hgo := Bw1; clear hgo
       refine wcopyS rfl (.tmp 6) (.const (.string ⟨#[109, 105, 115, 115, 105, 118, 101, 58]⟩)) rfl (l := markB) r_1 rfl rfl (by omega) (by decide) 8 rfl ?_
       intro w2 q gk
       replace r_1 := q
       have HV2 : Hid (Bss w2 v L) := Lib.hid (HV.out.below (Below.grown Bw1 gk Bw1.size fun k hk => by cases hk; exact L_b) (Nat.le_refl _))
       have Bw2 := zbg HGS Bw1 gk L_b
       clear Bw1 q gk))
  have HE : Sam (fun _ => False) w2 w2.drew := (Sam.refl _ _).drew
  refine wp_region_linf (Sam (fun _ => False)) (fun w => Sam.refl _ w) (fun _ _ _ h k => h.trans k) 5 8 (.rd 0 (.rd 1 (.rd 2 (.rd 3 (.wr 4 .done))))) (by kernel_rfl) (by kernel_rfl) (by decide) (by kernel_rfl) (fun d _ _ _ _ h => by cases d <;> exact h) ?_
  refine linf_pure 8 _ _ (.slice (some ⟨b1, 0, none⟩) 64 64) rfl rfl rfl rfl rfl (fun wx hx => by unfold mkOp; go_simp; all_goals (with_reducible rfl)) ?_
  simp only [Act.put, zA, zB, zC]
  refine linf_pure 9 _ _ (.int .i64 8) rfl rfl rfl rfl rfl (fun wx hx => by unfold mkOp; go_simp; all_goals (with_reducible rfl)) ?_
  simp only [Act.put, zA, zB, zC]
  refine linf_pure 10 _ _ (.slice (some ⟨b1, 8, none⟩) 56 56) rfl rfl rfl rfl rfl (fun wx hx => exec_sliceAt _ 28 5 _ _ _ 8 Try.underlying28 (by kernel_rfl) rfl rfl rfl (by omega) (by omega) rfl rfl rfl) ?_
  simp only [Act.put, zA, zB, zC]
  refine linf_pure 11 _ _ (v) rfl rfl rfl rfl rfl (fun wx hx => by unfold mkOp; go_simp; all_goals (with_reducible rfl)) ?_
  simp only [Act.put, zA, zB, zC]
  refine linf_fn 12 62 _ _ _ (cat_any v L _ HV2.out (by have := HL.out; omega)) rfl rfl rfl rfl Try.func62 (by kernel_rfl) (by kernel_rfl) (by go_simp) ?_
  rintro e wf12 ⟨v_c, rfl, o_c, kk⟩
  refine ⟨_, rfl, Sam.of_below kk, ?_⟩
  replace HE := HE.trans (Sam.of_below kk)
  clear kk
  simp only [Act.put, zA, zB, zC]
  refine linf_copy 13 (.tmp 10) (.tmp 12) rfl rfl rfl rfl (Sam.row r_1 HE fun h => h) o_c.bs rfl rfl (by omega) L.flatten.length (by have := HL.out; exact (Nat.min_eq_left this).symm) ?_
  intro vz w9 q gk
  have o_m := marked_row (base := w.heap.size) q L_b HL.out rfl (fun i => rfl)
  have Bw9 := zbg HGS (Bw2.trans (HE.none.mono Bw2.size)) gk L_b
  clear q gk HE r_1 Bw2 o_c
  go_wp2
  go_ret
  exact ⟨_, rfl, o_m, Bw9⟩
set_option maxHeartbeats 4000000 in
set_option maxRecDepth 20000 in
theorem hasPrefix_any (v1 v2 : Value) (l1 l2 : List UInt8) (w : World) (h1 : Bs w v1 l1) (h2 : Bs w v2 l2) (hl : l2.length ≤ l1.length) : Calls Try.prog 43 #[v1, v2] w fun e w' => e = .returned (.bool (l1.take l2.length == l2)) ∧ w' = w := by
  obtain ⟨v3, f_3, hr3⟩ := takeB h1 l2.length hl
  obtain ⟨ad1, n1, c1, rfl, e1, y1, z1, hB1⟩ := h1.shape
  obtain ⟨ad2, n2, c2, rfl, e2, y2, z2, hB2⟩ := h2.shape
  rw [e2] at hr3 f_3 hl ⊢
  rw [e1] at hl
  have HR := Lib.hid hr3
  have HF := Lib.hid f_3
  have HB := Lib.hid hB2
  have hge : ¬ (n1 : Int) < (n2 : Int) := by omega
  have hge2 : (n2 : Int) ≤ (n1 : Int) := by omega
  clear h1 h2 hB1 hB2 hr3 f_3 e1 e2 hl y1 z1 y2 z2
  go_enter Try.func43, Try.ntmps43
  go_wp2_with (first
    | (refine wpList_value_given rfl v3 (by rw [exec_mkOp]; exact HR.out _ _ _ _ _ rfl rfl) ?_)
    | (go_at_call 56
       refine (bytesEqual_any _ _ (l1.take n2) l2 _ HF.out HB.out).mono ?_
       rintro e w2 ⟨rfl, rfl⟩))
  go_ret
  exact ⟨rfl, rfl⟩
set_option maxHeartbeats 4000000 in
set_option maxRecDepth 20000 in
theorem block_any (c s : Nat) (w : World) (hc : c < 9223372036854775808) (hs : s < 9223372036854775808) : Calls Try.prog 40 #[.agg (arrOf 2 (hdF c s))] w fun e w' => ∃ v', e = .returned v' ∧ Owns w' w.heap.size v' (headL c s) ∧ Below w.heap.size w w' := by
  have e1 : IntKind.u64.wrap (c : Int) = (c : Int) := IntWalk.u64_in _ (by omega)
  have e2 : IntKind.u64.wrap (s : Int) = (s : Int) := IntWalk.u64_in _ (by omega)
  have HC := Lib.hid (And.intro hc hs)
  have HGS : Hid (∀ wq : World, Below w.heap.size w wq → w.heap.size ≤ wq.heap.size) := Lib.hid fun wq h => h.size
  have Bw0 := Below.refl w.heap.size w
  clear hc hs
  go_enter Try.func40, Try.ntmps40
  go_wp2_with (first
    | (have hgo := Bw0; clear hgo
       refine wpList_box_row rfl 71 (.tmp 0) rfl 2 (hdF c s) rfl ?_
       intro x1 w1 lx r_x1 kk
       have Bw1 := zbt HGS Bw0 kk
       clear Bw0 kk))
  replace r_x1 := r_x1.drew
  have Bw2 := Bw1.drew
  clear Bw1
  refine wp_region_lint (.rd 0 (.rd 1 (.rd 2 (.rd 4 (.rd 5 (.rd 6 (.wr 3 (.wr 7 (.wr 8 (.wr 9 (.rd 10 .done))))))))))) (by kernel_rfl) (by kernel_rfl) (by decide) (by kernel_rfl) (fun d _ _ _ _ h => by cases d <;> exact h) ?_
  refine lint_pure 3 _ _ (.pointer (some ⟨x1, 0, none⟩)) rfl rfl rfl rfl rfl (fun wx hx => by unfold mkOp; go_simp; all_goals (with_reducible rfl)) ?_
  simp only [Act.put, zA, zB, zC]
  refine lint_pure 4 _ _ (.int .i64 (c : Int)) rfl rfl rfl rfl rfl (fun wx hx => exec_loadG _ _ _ _ _ r_x1 (Sam.of_below (F := fun _ => False) hx) (fun h => h) rfl (by omega) rfl (by kernel_rfl)) ?_
  simp only [Act.put, zA, zB, zC]
  refine lint_pure 5 _ _ (.int .u64 (c : Int)) rfl rfl rfl rfl rfl (fun wx hx => by unfold mkOp; go_simp; all_goals (with_reducible rfl)) ?_
  simp only [Act.put, zA, zB, zC]
  refine lint_pure 7 _ _ (.pointer (some ⟨x1, 1, none⟩)) rfl rfl rfl rfl rfl (fun wx hx => by unfold mkOp; go_simp; all_goals (with_reducible rfl)) ?_
  simp only [Act.put, zA, zB, zC]
  refine lint_pure 8 _ _ (.int .i64 (s : Int)) rfl rfl rfl rfl rfl (fun wx hx => exec_loadG _ _ _ _ _ r_x1 (Sam.of_below (F := fun _ => False) hx) (fun h => h) rfl (by omega) rfl (by kernel_rfl)) ?_
  simp only [Act.put, zA, zB, zC]
  refine lint_pure 9 _ _ (.int .u64 (s : Int)) rfl rfl rfl rfl rfl (fun wx hx => by unfold mkOp; go_simp; all_goals (with_reducible rfl)) ?_
  simp only [Act.put, zA, zB, zC]
  refine stp_fn 6 55 _ _ _ (put64_any c _ (by have := HC.out; omega)) rfl rfl rfl rfl Try.func55 (by kernel_rfl) (by kernel_rfl) (by go_simp) ?_
  rintro e wq6 ⟨v_6, rfl, f_6, kk⟩
  refine ⟨_, rfl, kk, ?_⟩
  replace r_x1 := zrb r_x1 kk
  have Bw3 := zbt HGS Bw2 kk
  clear Bw2 kk
  simp only [Act.put, zA, zB, zC]
  refine stp_fn 10 55 _ _ _ (put64_any s _ (by have := HC.out; omega)) rfl rfl rfl rfl Try.func55 (by kernel_rfl) (by kernel_rfl) (by go_simp) ?_
  rintro e wq10 ⟨v_10, rfl, f_10, kk⟩
  refine ⟨_, rfl, kk, ?_⟩
  replace r_x1 := zrb r_x1 kk
  replace f_6 := zfb f_6 kk
  have Bw4 := zbt HGS Bw3 kk
  clear Bw3 kk
  simp only [Act.put, zA, zB, zC]
  refine stp_rowsS2 11 (.tmp 6) (.tmp 10) rfl rfl rfl rfl f_6 f_10 rfl rfl  ?_
  intro wq11 v_11 f_11 kk
  replace r_x1 := zrb r_x1 kk
  replace f_6 := zfb f_6 kk
  replace f_10 := zfb f_10 kk
  have Bw5 := zbt HGS Bw4 kk
  clear Bw4 kk
  simp only [Act.put, zA, zB, zC]
  refine stp_fn 12 53 _ _ _ (marked_any _ _ _ f_11 (by simp [bigB_length])) rfl rfl rfl rfl Try.func53 (by kernel_rfl) (by kernel_rfl) (by go_simp) ?_
  rintro e wq12 ⟨v_12, rfl, o_12, kk⟩
  refine ⟨_, rfl, kk, ?_⟩
  replace o_12 := o_12.lower (HGS.out _ Bw5)
  replace r_x1 := zrb r_x1 kk
  replace f_6 := zfb f_6 kk
  replace f_10 := zfb f_10 kk
  have Bw6 := zbt HGS Bw5 kk
  clear Bw5 kk
  simp only [Act.put, zA, zB, zC]
  refine lint_pure 2 _ _ (v_12) rfl rfl rfl rfl rfl (fun wx hx => by unfold mkOp; go_simp; all_goals (with_reducible rfl)) ?_
  simp only [Act.put, zA, zB, zC]
  refine lint_end ?_
  go_wp2
  go_ret
  rw [show [bigB c 8, bigB s 8].flatten = bigB c 8 ++ bigB s 8 by simp] at o_12
  exact ⟨_, rfl, o_12, Bw6⟩
end Go.Proofs.Ytefabimolfcllaa

/- The program's store: its head. -/
namespace Go.Proofs.Ytefabimolfcllaa
open Go.RowKit Go.Deep
set_option linter.unusedSimpArgs false
set_option linter.unusedVariables false

theorem gAt_256 (n k j : Nat) : gAt n k j = n / 256 ^ (k - 1 - j) % 256 := by
  unfold gAt; rw [Nat.pow_mul]
theorem byteAt_big (n k j : Nat) (l : List UInt8) (hj : j < k) : byteAt (bigB n k ++ l) j = n / 256 ^ (k - 1 - j) % 256 := by
  have h : j < (bigB n k ++ l).length := by simp [bigB_length]; omega
  rw [← gAt_256]
  unfold byteAt
  rw [List.getD_eq_getElem?_getD, List.getElem?_eq_getElem h, List.getElem_append_left (by rw [bigB_length]; exact hj)]
  simp [bigB, gAt]
theorem numB_big (n k : Nat) (l : List UInt8) : ∀ j, j ≤ k → numB (bigB n k ++ l) j = n / 256 ^ (k - j) % 256 ^ j
  | 0, _ => by simp [numB, Nat.mod_one]
  | j + 1, h => by
    rw [numB, numB_big n k l j (by omega), byteAt_big n k j l (by omega)]
    have e : k - j = (k - 1 - j) + 1 := by omega
    have e2 : k - (j + 1) = k - 1 - j := by omega
    rw [e, e2, Nat.pow_succ 256 (k - 1 - j), ← Nat.div_div_eq_div_mul, Nat.pow_succ 256 j, Nat.mul_comm (256 ^ j) 256, Nat.mod_mul]
    omega
theorem numB_big8 (n : Nat) (l : List UInt8) (hn : n < 2 ^ 64) : numB (bigB n 8 ++ l) 8 = n := by
  rw [numB_big n 8 l 8 (by omega)]
  simp
  omega
theorem lf_obj {ops : Array Oper} {Q : Exit → Act → World → Prop} {L i : Nat} {r : Stp} {a : Act} {w : World} {o : Oper} (d : Nat) (ty : TypeId) (k : Nat) (f : Nat → Value) (hz : (Try.prog.info? ty).map (fun i => i.zero) = some (some (.agg (arrOf k f)))) (ho : ops[i]? = some o) (hd : o.dst = some d) (hop : o.op = .alloc ty) (hw : Region.wanted o (yielded ops a.tmps) = true)
    (h : ∀ b w', w.heap.size ≤ b → w'.rowIs b ty k f → Below w.heap.size w w' → LinF Try.prog ops Q (Sam fun _ => False) L r (a.put (some d) (.pointer (some ⟨b, 0, none⟩))) w') : wpOp Try.prog ops Q i (fun a' w' => Sam (fun _ => False) w w' ∧ LinF Try.prog ops Q (Sam fun _ => False) L r a' w') a w := by
  have hb : Below w.heap.size w (w.alloc (.cells (arrOf k f) ty)) := (Below.refl _ _).alloc (Nat.le_refl _) _
  refine linf_made d (.alloc ty) o.type (.pointer (some ⟨w.heap.size, 0, none⟩)) _ ho hd hop rfl hw ?_ (Sam.of_below hb) (h _ _ (Nat.le_refl _) (rowIs_arr _ _ _ _) hb)
  exact exec_alloc_arr _ _ _ _ hz
theorem lf_last {ops : Array Oper} {Q : Exit → Act → World → Prop} {E : World → World → Prop} {L : Nat} {a : Act} {w : World} {o : Oper} (ty : TypeId) (x y : Operand) {k b : Nat} {t' : TypeId} {f g : Nat → Value} (ho : ops[L]? = some o) (hd : o.dst = none) (hop : o.op = .store ty x y) (hw : Region.wanted o (yielded ops a.tmps) = true)
    (hr : w.rowIs b t' k f) (hx : a.eval x = .pointer (some ⟨b, 0, none⟩)) (hy : a.eval y = .agg (arrOf k g)) (ht : IsArr Try.prog ty k) (h1 : ∀ j, j < k → (g j).oneCell' = true) (h : ∀ w', w'.rowIs b t' k g → w.grownBy w' (some b) → Q .normal a w') : LinF Try.prog ops Q E L .done a w := by
  obtain ⟨w1, e, q1, q2, _⟩ := exec_store_arr (P := Try.prog) a.eval ty x y o.type hr hx hy ht (by omega) h1
  exact linf_store _ o.type w1 ho hd hop rfl hw e (h w1 (q1.congr fun i hi => putN_whole hi) q2)
theorem numB_head (c s : Nat) (hc : c < 2 ^ 64) (hs : s < 2 ^ 64) : numB ((headL c s).drop 8) 8 = c ∧ numB ((headL c s).drop 16) 8 = s := by
  have h8 : markB.length = 8 := rfl
  have e : headL c s = markB ++ (bigB c 8 ++ (bigB s 8 ++ List.replicate 40 0)) := by
    unfold headL markedL
    rw [show 56 - (bigB c 8 ++ bigB s 8).length = 40 by simp [bigB_length]]
    simp only [List.append_assoc]
  constructor
  · rw [e, List.drop_left' h8]
    exact numB_big8 _ _ hc
  · rw [e, show 16 = 8 + 8 from rfl, ← List.drop_drop, List.drop_left' h8, List.drop_left' (bigB_length _ _)]
    exact numB_big8 _ _ hs
theorem headL_not (c s : Nat) : (headL c s == List.replicate (headL c s).length 0) = false := by
  have e : headL c s = 109 :: (headL c s).drop 1 := rfl
  rw [headL_len]
  cases h : (headL c s == List.replicate 64 0) with
  | false => rfl
  | true =>
    have h2 := eq_of_beq h
    rw [e] at h2
    injection h2 with h3
    exact absurd h3 (by decide)
set_option maxHeartbeats 4000000 in
set_option maxRecDepth 20000 in
theorem headOf_zero (T D : Nat → Prop) (w : World) (dp B : Nat) (S : DS) (h : BkAt T D w dp S) (hs : okD S B) (hB : B ≤ 100000) (hz : nowS S 0 = zeroB) : Calls Try.prog 36 #[.pointer (some ⟨dp, 0, none⟩)] w fun e w' => e = .returned (.tuple #[.agg (arrOf 2 (hdF 0 0)), .bool true]) ∧ Below w.heap.size w w' := by
  have HS := Lib.hid hs
  have HH := Lib.hid h
  have HZ := Lib.hid hz
  have HGS : Hid (∀ wq : World, Below w.heap.size w wq → w.heap.size ≤ wq.heap.size) := Lib.hid fun wq h => h.size
  have Bw0 := Below.refl w.heap.size w
  have HN : Hid (0 ≤ (0 : Int) ∧ (0 : Int) < (S.n : Int)) := Lib.hid ⟨by omega, by have := hs.n1; omega⟩
  have HS1 := Lib.hid hB
  clear hs h hz hB
  go_enter Try.func36, Try.ntmps36
  go_wp2_with (first
    | (have hgo := Bw0; clear hgo
       refine wpList_alloc_row rfl 71 rfl 2 (hdF 0 0) zeroHead ?_
       intro x2 w1 lx r_x2 kk
       have HQ1 := Lib.hid (dv_stay T D (fun _ => False) _ _ _ _ HH.out (Sam.of_below kk) (fun _ h => h.elim))
       have L_x2 := zrl HGS Bw0 lx
       have Bw1 := zbt HGS Bw0 kk
       clear Bw0 kk lx)
    | (have hgo := Bw1; clear hgo
       go_at_call 41
       refine (dv_read T D _ dp S B 0 HQ1.out HS.out HS1.out).mono ?_
       rintro e w2 ⟨v_b, rfl, f_b, kk⟩
       rw [if_pos HN.out] at f_b ⊢
       rw [show (0 : Int).toNat = 0 from rfl, HZ.out] at f_b
       replace r_x2 := zrb r_x2 kk
       have Bw2 := zbt HGS Bw1 kk
       clear Bw1 kk)
    | (have hgo := Bw2; clear hgo
       go_at_call 42
       refine (noughts_any _ _ _ f_b (by decide)).mono ?_
       rintro e w3 ⟨rfl, kk⟩
       rw [show (zeroB == List.replicate zeroB.length 0) = true from rfl]
       replace r_x2 := zrb r_x2 kk
       have Bw3 := zbt HGS Bw2 kk
       clear Bw2 kk f_b)
    | (refine wval rfl (.build 71 #[]) rfl (.agg (arrOf 2 (hdF 0 0))) (exec_build_as _ _ _ builtHead0) ?_)
    | (have hgo := Bw3; clear hgo
       refine wpList_store_as rfl 71 (.tmp 2) (.tmp 15) rfl 2 (hdF 0 0) isHead r_x2 rfl rfl (by omega) (fun j _ => by unfold hdF; split <;> rfl) (fun i hi => putN_whole hi) ?_
       intro w4 q gk
       replace r_x2 := q
       have Bw4 := zbg HGS Bw3 gk L_x2
       clear Bw3 q gk))
  exact ret_cell_as_tmp _ rfl isHead r_x2 rfl rfl (by omega) (fun _ _ => rfl) rfl ⟨rfl, Bw4⟩
set_option maxHeartbeats 4000000 in
set_option maxRecDepth 20000 in
theorem headOf_some (T D : Nat → Prop) (w : World) (dp B c s : Nat) (S : DS) (h : BkAt T D w dp S) (hs : okD S B) (hB : B ≤ 100000) (hz : nowS S 0 = headL c s) (hc1 : 1 ≤ c) (hc2 : c ≤ 1000000) (hr : s ≤ roomN S.n) (hn : S.n ≤ 256) : Calls Try.prog 36 #[.pointer (some ⟨dp, 0, none⟩)] w fun e w' => e = .returned (.tuple #[.agg (arrOf 2 (hdF c s)), .bool true]) ∧ Below w.heap.size w w' := by
  have HS := Lib.hid hs
  have HH := Lib.hid h
  have HZ := Lib.hid hz
  have HGS : Hid (∀ wq : World, Below w.heap.size w wq → w.heap.size ≤ wq.heap.size) := Lib.hid fun wq h => h.size
  have Bw0 := Below.refl w.heap.size w
  have HN : Hid (0 ≤ (0 : Int) ∧ (0 : Int) < (S.n : Int)) := Lib.hid ⟨by omega, by have := hs.n1; omega⟩
  have HS1 := Lib.hid hB
  have hs2 : s ≤ 5120 := by unfold roomN at hr; split at hr <;> omega
  have HN8 := Lib.hid (numB_head c s (by omega) (by omega)).1
  have HN16 := Lib.hid (numB_head c s (by omega) (by omega)).2
  have HRN := Lib.hid hr
  have HNN : Hid (S.n ≤ 65536) := Lib.hid (by omega)
  have HC63 : Hid (c < 9223372036854775808 ∧ s < 9223372036854775808) := Lib.hid (by omega)
  have e1 : IntKind.i64.wrap (c : Int) = (c : Int) := IntWalk.i64_in _ (by omega)
  have e2 : IntKind.i64.wrap (s : Int) = (s : Int) := IntWalk.i64_in _ (by omega)
  have g1 : ¬ (c : Int) < 1 := by omega
  have g2 : ¬ (s : Int) < 0 := by omega
  have g3 : ¬ (roomN S.n : Int) < (s : Int) := by omega
  clear hs h hz hB hc1 hc2 hr hn hs2
  go_enter Try.func36, Try.ntmps36
  go_wp2_with (first
    | (have hgo := Bw0; clear hgo
       refine wpList_alloc_row rfl 71 rfl 2 (hdF 0 0) zeroHead ?_
       intro x2 w1 lx r_x2 kk
       have HQ1 := Lib.hid (dv_stay T D (fun _ => False) _ _ _ _ HH.out (Sam.of_below kk) (fun _ h => h.elim))
       have L_x2 := zrl HGS Bw0 lx
       have Bw1 := zbt HGS Bw0 kk
       clear Bw0 kk lx)
    | (have hgo := Bw1; clear hgo
       go_at_call 41
       refine (dv_read T D _ dp S B 0 HQ1.out HS.out HS1.out).mono ?_
       rintro e w2 ⟨v_b, rfl, f_b, kk⟩
       rw [if_pos HN.out] at f_b ⊢
       rw [show (0 : Int).toNat = 0 from rfl, HZ.out] at f_b
       have HQ2 := Lib.hid (dv_stay T D (fun _ => False) _ _ _ _ HQ1.out (Sam.of_below kk) (fun _ h => h.elim))
       replace r_x2 := zrb r_x2 kk
       have Bw2 := zbt HGS Bw1 kk
       clear Bw1 kk HQ1)
    | (have hgo := Bw2; clear hgo
       go_at_call 42
       refine (noughts_any _ _ _ f_b (by rw [headL_len]; omega)).mono ?_
       rintro e w3 ⟨rfl, kk⟩
       rw [headL_not]
       have HQ3 := Lib.hid (dv_stay T D (fun _ => False) _ _ _ _ HQ2.out (Sam.of_below kk) (fun _ h => h.elim))
       replace f_b := zfb f_b kk
       replace r_x2 := zrb r_x2 kk
       have Bw3 := zbt HGS Bw2 kk
       clear Bw2 kk HQ2))
  obtain ⟨v_8, f_8, hr_8⟩ := dropB f_b 8 (by rw [headL_len]; omega)
  obtain ⟨v_16, f_16, hr_16⟩ := dropB f_b 16 (by rw [headL_len]; omega)
  have HE : Sam (fun _ => False) w3 w3.drew := (Sam.refl _ _).drew
  refine wp_region_linf (Sam (fun _ => False)) (fun w => Sam.refl _ w) (fun _ _ _ h k => h.trans k) 13 20 (.rd 0 (.rd 1 (.rd 2 (.rd 5 (.rd 6 (.rd 7 (.rd 8 (.br 3 (.rd 4 (.br 9 (.rd 10 (.rd 11 (.wr 12 .done))) 12 (.wr 9 (.rd 10 (.rd 11 .done))))) 12 (.wr 3 (.rd 4 (.wr 9 (.rd 10 (.rd 11 .done))))))))))))) (by kernel_rfl) (by kernel_rfl) (by decide) (by kernel_rfl) (fun d _ _ _ _ h => by cases d <;> exact h) ?_
  refine linf_pure 16 _ _ (v_b) rfl rfl rfl rfl rfl (fun wx hx => by unfold mkOp; go_simp; all_goals (with_reducible rfl)) ?_
  simp only [Act.put, zA, zB, zC]
  refine linf_pure 17 _ _ (.int .i64 8) rfl rfl rfl rfl rfl (fun wx hx => by unfold mkOp; go_simp; all_goals (with_reducible rfl)) ?_
  simp only [Act.put, zA, zB, zC]
  refine linf_pure 18 _ _ (v_8) rfl rfl rfl rfl rfl (fun wx hx => by exact hr_8 _ _ _ _ _ rfl rfl) ?_
  simp only [Act.put, zA, zB, zC]
  refine linf_pure 21 _ _ (v_b) rfl rfl rfl rfl rfl (fun wx hx => by unfold mkOp; go_simp; all_goals (with_reducible rfl)) ?_
  simp only [Act.put, zA, zB, zC]
  refine linf_pure 22 _ _ (.int .i64 8) rfl rfl rfl rfl rfl (fun wx hx => by unfold mkOp; go_simp; all_goals (with_reducible rfl)) ?_
  simp only [Act.put, zA, zB, zC]
  refine linf_pure 23 _ _ (.int .i64 16) rfl rfl rfl rfl rfl (fun wx hx => by unfold mkOp; go_simp; all_goals (first | (with_reducible rfl) | decide)) ?_
  simp only [Act.put, zA, zB, zC]
  refine linf_pure 24 _ _ (v_16) rfl rfl rfl rfl rfl (fun wx hx => by exact hr_16 _ _ _ _ _ rfl rfl) ?_
  simp only [Act.put, zA, zB, zC]
  refine ⟨?_, ?_⟩
  · skip
    refine linf_fn 19 49 _ _ _ (get64_any _ _ _ (zfb f_8 HE.none)) rfl rfl rfl rfl Try.func49 (by kernel_rfl) (by kernel_rfl) (by go_simp) ?_
    rintro e wf19 ⟨rfl, rfl⟩
    refine ⟨_, rfl, Sam.refl _ _, ?_⟩
    rw [HN8.out]
    simp only [Act.put, zA, zB, zC]
    refine linf_pure 20 _ _ (.int .i64 (c : Int)) rfl rfl rfl rfl rfl (fun wx hx => by unfold mkOp; go_simp; all_goals (with_reducible rfl)) ?_
    simp only [Act.put, zA, zB, zC]
    refine ⟨?_, ?_⟩
    · skip
      refine linf_fn 25 49 _ _ _ (get64_any _ _ _ (zfb f_16 HE.none)) rfl rfl rfl rfl Try.func49 (by kernel_rfl) (by kernel_rfl) (by go_simp) ?_
      rintro e wf25 ⟨rfl, rfl⟩
      refine ⟨_, rfl, Sam.refl _ _, ?_⟩
      rw [HN16.out]
      simp only [Act.put, zA, zB, zC]
      refine linf_pure 26 _ _ (.int .i64 (s : Int)) rfl rfl rfl rfl rfl (fun wx hx => by unfold mkOp; go_simp; all_goals (with_reducible rfl)) ?_
      simp only [Act.put, zA, zB, zC]
      refine linf_pure 27 _ _ (.agg (arrOf 2 (hdF c s))) rfl rfl rfl rfl rfl (fun wx hx => exec_build_as _ _ _ (by simp only [List.map_toArray, List.map_cons, List.map_nil, Act.eval, zA, zB, zC]; exact builtHead c s)) ?_
      simp only [Act.put, zA, zB, zC]
      refine lf_obj 7 71 2 (hdF 0 0) zeroHead rfl rfl rfl rfl ?_
      intro x7 wf7 lx7 r_x7 kk
      have L_x7 := Nat.le_trans HE.size lx7
      replace HE := HE.trans (Sam.of_below kk)
      clear kk lx7
      simp only [Act.put, zA, zB, zC]
      refine lf_last 71 (.tmp 7) (.tmp 27) rfl rfl rfl rfl r_x7 rfl rfl isHead (fun j _ => by unfold hdF; split <;> rfl) ?_
      intro w5 r_q gk
      have K5 : Below w3.heap.size w3 w5 := HE.none.grown gk HE.size fun k hk => by cases hk; exact L_x7
      have HQ5 : Hid (BkAt T D w5.drew dp S) := Lib.hid (dv_stay T D (fun _ => False) _ _ _ _ HQ3.out (Sam.of_below K5.drew) (fun _ h => h.elim))
      replace f_b := zfb f_b K5
      replace r_x2 := zrb r_x2 K5
      have Bw5 := zbt HGS Bw3 K5
      clear Bw3 K5 gk HE HQ3 r_x7 L_x7 f_8 f_16 hr_8 hr_16
      go_wp2
      replace f_b := f_b.drew
      replace r_x2 := r_x2.drew
      replace r_q := r_q.drew
      have Bw6 := Bw5.drew
      clear Bw5
      refine wp_region_lint (.rd 0 (.rd 1 (.rd 2 (.rd 3 (.rd 4 (.rd 5 (.rd 6 (.rd 7 (.rd 8 (.rd 9 (.rd 10 (.rd 11 (.wr 12 (.wr 13 (.rd 14 (.rd 15 (.rd 16 (.rd 17 (.rd 18 (.wr 19 (.wr 20 (.rd 21 (.rd 22 .done))))))))))))))))))))))) (by kernel_rfl) (by kernel_rfl) (by decide) (by kernel_rfl) (fun d _ _ _ _ h => by cases d <;> exact h) ?_
      refine lint_pure 28 _ _ (.pointer (some ⟨x7, 0, none⟩)) rfl rfl rfl rfl rfl (fun wx hx => by unfold mkOp; go_simp; all_goals (with_reducible rfl)) ?_
      simp only [Act.put, zA, zB, zC]
      refine lint_pure 29 _ _ (.int .i64 (c : Int)) rfl rfl rfl rfl rfl (fun wx hx => exec_loadG _ _ _ _ _ r_q (Sam.of_below (F := fun _ => False) hx) (fun h => h) rfl (by omega) rfl (by kernel_rfl)) ?_
      simp only [Act.put, zA, zB, zC]
      refine lint_pure 30 _ _ (.bool false) rfl rfl rfl rfl rfl (fun wx hx => by unfold mkOp; go_simp; all_goals (with_reducible rfl)) ?_
      simp only [Act.put, zA, zB, zC]
      refine lint_pure 31 _ _ (.bool false) rfl rfl rfl rfl rfl (fun wx hx => by unfold mkOp; go_simp; all_goals (with_reducible rfl)) ?_
      simp only [Act.put, zA, zB, zC]
      refine lint_pure 32 _ _ (.pointer (some ⟨x7, 1, none⟩)) rfl rfl rfl rfl rfl (fun wx hx => by unfold mkOp; go_simp; all_goals (with_reducible rfl)) ?_
      simp only [Act.put, zA, zB, zC]
      refine lint_pure 33 _ _ (.int .i64 (s : Int)) rfl rfl rfl rfl rfl (fun wx hx => exec_loadG _ _ _ _ _ r_q (Sam.of_below (F := fun _ => False) hx) (fun h => h) rfl (by omega) rfl (by kernel_rfl)) ?_
      simp only [Act.put, zA, zB, zC]
      refine lint_pure 34 _ _ (.bool false) rfl rfl rfl rfl rfl (fun wx hx => by unfold mkOp; go_simp; all_goals (with_reducible rfl)) ?_
      simp only [Act.put, zA, zB, zC]
      refine lint_pure 35 _ _ (.bool false) rfl rfl rfl rfl rfl (fun wx hx => by unfold mkOp; go_simp; all_goals (with_reducible rfl)) ?_
      simp only [Act.put, zA, zB, zC]
      refine lint_pure 36 _ _ (.bool false) rfl rfl rfl rfl rfl (fun wx hx => by unfold mkOp; go_simp; all_goals (with_reducible rfl)) ?_
      simp only [Act.put, zA, zB, zC]
      refine lint_pure 37 _ _ (.pointer (some ⟨x7, 1, none⟩)) rfl rfl rfl rfl rfl (fun wx hx => by unfold mkOp; go_simp; all_goals (with_reducible rfl)) ?_
      simp only [Act.put, zA, zB, zC]
      refine lint_pure 38 _ _ (.int .i64 (s : Int)) rfl rfl rfl rfl rfl (fun wx hx => exec_loadG _ _ _ _ _ r_q (Sam.of_below (F := fun _ => False) hx) (fun h => h) rfl (by omega) rfl (by kernel_rfl)) ?_
      simp only [Act.put, zA, zB, zC]
      refine lint_pure 39 _ _ (.pointer (some ⟨dp, 0, none⟩)) rfl rfl rfl rfl rfl (fun wx hx => by unfold mkOp; go_simp; all_goals (with_reducible rfl)) ?_
      simp only [Act.put, zA, zB, zC]
      refine stp_fn 40 24 _ _ _ (dv_len T D _ dp S B HQ5.out HS.out) rfl rfl rfl rfl Try.func24 (by kernel_rfl) (by kernel_rfl) (by go_simp) ?_
      rintro e wq40 ⟨rfl, kk⟩
      refine ⟨_, rfl, kk, ?_⟩
      replace f_b := zfb f_b kk
      replace r_x2 := zrb r_x2 kk
      replace r_q := zrb r_q kk
      have Bw7 := zbt HGS Bw6 kk
      clear Bw6 kk
      simp only [Act.put, zA, zB, zC]
      refine stp_fn 41 14 _ _ _ (roomS_any S.n _ HNN.out) rfl rfl rfl rfl Try.func14 (by kernel_rfl) (by kernel_rfl) (by go_simp) ?_
      rintro e wq41 ⟨rfl, rfl⟩
      refine ⟨_, rfl, Below.refl _ _, ?_⟩
      simp only [Act.put, zA, zB, zC]
      refine lint_pure 42 _ _ (.bool false) rfl rfl rfl rfl rfl (fun wx hx => by unfold mkOp; go_simp; all_goals (first | (with_reducible rfl) | exact HRN.out)) ?_
      simp only [Act.put, zA, zB, zC]
      refine lint_pure 43 _ _ (.bool false) rfl rfl rfl rfl rfl (fun wx hx => by unfold mkOp; go_simp; all_goals (with_reducible rfl)) ?_
      simp only [Act.put, zA, zB, zC]
      refine lint_pure 44 _ _ (.bool false) rfl rfl rfl rfl rfl (fun wx hx => by unfold mkOp; go_simp; all_goals (with_reducible rfl)) ?_
      simp only [Act.put, zA, zB, zC]
      refine lint_pure 45 _ _ (v_b) rfl rfl rfl rfl rfl (fun wx hx => by unfold mkOp; go_simp; all_goals (with_reducible rfl)) ?_
      simp only [Act.put, zA, zB, zC]
      refine lint_pure 46 _ _ (.agg (arrOf 2 (hdF c s))) rfl rfl rfl rfl rfl (fun wx hx => exec_load_as _ _ _ _ (hdF c s) rfl isHead (zrb r_q hx) (by omega) (fun i _ => by rw [Nat.zero_add])) ?_
      simp only [Act.put, zA, zB, zC]
      refine stp_fn 47 40 _ _ _ (block_any c s _ HC63.out.1 HC63.out.2) rfl rfl rfl rfl Try.func40 (by kernel_rfl) (by kernel_rfl) (by go_simp) ?_
      rintro e wq47 ⟨v_47, rfl, o_47, kk⟩
      refine ⟨_, rfl, kk, ?_⟩
      replace f_b := zfb f_b kk
      replace r_x2 := zrb r_x2 kk
      replace r_q := zrb r_q kk
      have Bw8 := zbt HGS Bw7 kk
      clear Bw7 kk
      simp only [Act.put, zA, zB, zC]
      refine stp_fn 48 50 _ _ _ (equal_any _ _ (headL c s) (headL c s) _ f_b o_47.bs) rfl rfl rfl rfl Try.func50 (by kernel_rfl) (by kernel_rfl) (by go_simp) ?_
      rintro e wq48 ⟨rfl, rfl⟩
      refine ⟨_, rfl, Below.refl _ _, ?_⟩
      simp only [Act.put, zA, zB, zC]
      rw [show (headL c s == headL c s) = true from beq_self_eq_true _]
      refine lint_pure 49 _ _ (.bool false) rfl rfl rfl rfl rfl (fun wx hx => by unfold mkOp; go_simp; all_goals (with_reducible rfl)) ?_
      simp only [Act.put, zA, zB, zC]
      refine lint_pure 50 _ _ (.bool false) rfl rfl rfl rfl rfl (fun wx hx => by unfold mkOp; go_simp; all_goals (with_reducible rfl)) ?_
      simp only [Act.put, zA, zB, zC]
      refine lint_end ?_
      go_wp2_with (first
        | (refine wpList_load_as rfl 71 (.tmp 7) rfl 2 (hdF c s) isHead r_q rfl (by omega) (fun i _ => by rw [Nat.zero_add]) ?_)
        | (have hgo := Bw8; clear hgo
           refine wpList_store_as rfl 71 (.tmp 2) (.tmp 52) rfl 2 (hdF c s) isHead r_x2 rfl rfl (by omega) (fun j _ => by unfold hdF; split <;> rfl) (fun i hi => putN_whole hi) ?_
           intro wz q gk
           replace r_x2 := q
           have Bwz := zbg HGS Bw8 gk L_x2
           clear Bw8 q gk))
      exact ret_cell_as_tmp _ rfl isHead r_x2 rfl rfl (by omega) (fun _ _ => rfl) rfl ⟨rfl, Bwz⟩
    · skip
      refine lf_obj 7 71 2 (hdF 0 0) zeroHead rfl rfl rfl rfl ?_
      intro x7 wf7 lx7 r_x7 kk
      have L_x7 := Nat.le_trans HE.size lx7
      replace HE := HE.trans (Sam.of_below kk)
      clear kk lx7
      simp only [Act.put, zA, zB, zC]
      refine linf_fn 25 49 _ _ _ (get64_any _ _ _ (zfb f_16 HE.none)) rfl rfl rfl rfl Try.func49 (by kernel_rfl) (by kernel_rfl) (by go_simp) ?_
      rintro e wf25 ⟨rfl, rfl⟩
      refine ⟨_, rfl, Sam.refl _ _, ?_⟩
      rw [HN16.out]
      simp only [Act.put, zA, zB, zC]
      refine linf_pure 26 _ _ (.int .i64 (s : Int)) rfl rfl rfl rfl rfl (fun wx hx => by unfold mkOp; go_simp; all_goals (with_reducible rfl)) ?_
      simp only [Act.put, zA, zB, zC]
      refine linf_pure 27 _ _ (.agg (arrOf 2 (hdF c s))) rfl rfl rfl rfl rfl (fun wx hx => exec_build_as _ _ _ (by simp only [List.map_toArray, List.map_cons, List.map_nil, Act.eval, zA, zB, zC]; exact builtHead c s)) ?_
      simp only [Act.put, zA, zB, zC]
      refine lf_last 71 (.tmp 7) (.tmp 27) rfl rfl rfl rfl r_x7 rfl rfl isHead (fun j _ => by unfold hdF; split <;> rfl) ?_
      intro w5 r_q gk
      have K5 : Below w3.heap.size w3 w5 := HE.none.grown gk HE.size fun k hk => by cases hk; exact L_x7
      have HQ5 : Hid (BkAt T D w5.drew dp S) := Lib.hid (dv_stay T D (fun _ => False) _ _ _ _ HQ3.out (Sam.of_below K5.drew) (fun _ h => h.elim))
      replace f_b := zfb f_b K5
      replace r_x2 := zrb r_x2 K5
      have Bw5 := zbt HGS Bw3 K5
      clear Bw3 K5 gk HE HQ3 r_x7 L_x7 f_8 f_16 hr_8 hr_16
      go_wp2
      replace f_b := f_b.drew
      replace r_x2 := r_x2.drew
      replace r_q := r_q.drew
      have Bw6 := Bw5.drew
      clear Bw5
      refine wp_region_lint (.rd 0 (.rd 1 (.rd 2 (.rd 3 (.rd 4 (.rd 5 (.rd 6 (.rd 7 (.rd 8 (.rd 9 (.rd 10 (.rd 11 (.wr 12 (.wr 13 (.rd 14 (.rd 15 (.rd 16 (.rd 17 (.rd 18 (.wr 19 (.wr 20 (.rd 21 (.rd 22 .done))))))))))))))))))))))) (by kernel_rfl) (by kernel_rfl) (by decide) (by kernel_rfl) (fun d _ _ _ _ h => by cases d <;> exact h) ?_
      refine lint_pure 28 _ _ (.pointer (some ⟨x7, 0, none⟩)) rfl rfl rfl rfl rfl (fun wx hx => by unfold mkOp; go_simp; all_goals (with_reducible rfl)) ?_
      simp only [Act.put, zA, zB, zC]
      refine lint_pure 29 _ _ (.int .i64 (c : Int)) rfl rfl rfl rfl rfl (fun wx hx => exec_loadG _ _ _ _ _ r_q (Sam.of_below (F := fun _ => False) hx) (fun h => h) rfl (by omega) rfl (by kernel_rfl)) ?_
      simp only [Act.put, zA, zB, zC]
      refine lint_pure 30 _ _ (.bool false) rfl rfl rfl rfl rfl (fun wx hx => by unfold mkOp; go_simp; all_goals (with_reducible rfl)) ?_
      simp only [Act.put, zA, zB, zC]
      refine lint_pure 31 _ _ (.bool false) rfl rfl rfl rfl rfl (fun wx hx => by unfold mkOp; go_simp; all_goals (with_reducible rfl)) ?_
      simp only [Act.put, zA, zB, zC]
      refine lint_pure 32 _ _ (.pointer (some ⟨x7, 1, none⟩)) rfl rfl rfl rfl rfl (fun wx hx => by unfold mkOp; go_simp; all_goals (with_reducible rfl)) ?_
      simp only [Act.put, zA, zB, zC]
      refine lint_pure 33 _ _ (.int .i64 (s : Int)) rfl rfl rfl rfl rfl (fun wx hx => exec_loadG _ _ _ _ _ r_q (Sam.of_below (F := fun _ => False) hx) (fun h => h) rfl (by omega) rfl (by kernel_rfl)) ?_
      simp only [Act.put, zA, zB, zC]
      refine lint_pure 34 _ _ (.bool false) rfl rfl rfl rfl rfl (fun wx hx => by unfold mkOp; go_simp; all_goals (with_reducible rfl)) ?_
      simp only [Act.put, zA, zB, zC]
      refine lint_pure 35 _ _ (.bool false) rfl rfl rfl rfl rfl (fun wx hx => by unfold mkOp; go_simp; all_goals (with_reducible rfl)) ?_
      simp only [Act.put, zA, zB, zC]
      refine lint_pure 36 _ _ (.bool false) rfl rfl rfl rfl rfl (fun wx hx => by unfold mkOp; go_simp; all_goals (with_reducible rfl)) ?_
      simp only [Act.put, zA, zB, zC]
      refine lint_pure 37 _ _ (.pointer (some ⟨x7, 1, none⟩)) rfl rfl rfl rfl rfl (fun wx hx => by unfold mkOp; go_simp; all_goals (with_reducible rfl)) ?_
      simp only [Act.put, zA, zB, zC]
      refine lint_pure 38 _ _ (.int .i64 (s : Int)) rfl rfl rfl rfl rfl (fun wx hx => exec_loadG _ _ _ _ _ r_q (Sam.of_below (F := fun _ => False) hx) (fun h => h) rfl (by omega) rfl (by kernel_rfl)) ?_
      simp only [Act.put, zA, zB, zC]
      refine lint_pure 39 _ _ (.pointer (some ⟨dp, 0, none⟩)) rfl rfl rfl rfl rfl (fun wx hx => by unfold mkOp; go_simp; all_goals (with_reducible rfl)) ?_
      simp only [Act.put, zA, zB, zC]
      refine stp_fn 40 24 _ _ _ (dv_len T D _ dp S B HQ5.out HS.out) rfl rfl rfl rfl Try.func24 (by kernel_rfl) (by kernel_rfl) (by go_simp) ?_
      rintro e wq40 ⟨rfl, kk⟩
      refine ⟨_, rfl, kk, ?_⟩
      replace f_b := zfb f_b kk
      replace r_x2 := zrb r_x2 kk
      replace r_q := zrb r_q kk
      have Bw7 := zbt HGS Bw6 kk
      clear Bw6 kk
      simp only [Act.put, zA, zB, zC]
      refine stp_fn 41 14 _ _ _ (roomS_any S.n _ HNN.out) rfl rfl rfl rfl Try.func14 (by kernel_rfl) (by kernel_rfl) (by go_simp) ?_
      rintro e wq41 ⟨rfl, rfl⟩
      refine ⟨_, rfl, Below.refl _ _, ?_⟩
      simp only [Act.put, zA, zB, zC]
      refine lint_pure 42 _ _ (.bool false) rfl rfl rfl rfl rfl (fun wx hx => by unfold mkOp; go_simp; all_goals (first | (with_reducible rfl) | exact HRN.out)) ?_
      simp only [Act.put, zA, zB, zC]
      refine lint_pure 43 _ _ (.bool false) rfl rfl rfl rfl rfl (fun wx hx => by unfold mkOp; go_simp; all_goals (with_reducible rfl)) ?_
      simp only [Act.put, zA, zB, zC]
      refine lint_pure 44 _ _ (.bool false) rfl rfl rfl rfl rfl (fun wx hx => by unfold mkOp; go_simp; all_goals (with_reducible rfl)) ?_
      simp only [Act.put, zA, zB, zC]
      refine lint_pure 45 _ _ (v_b) rfl rfl rfl rfl rfl (fun wx hx => by unfold mkOp; go_simp; all_goals (with_reducible rfl)) ?_
      simp only [Act.put, zA, zB, zC]
      refine lint_pure 46 _ _ (.agg (arrOf 2 (hdF c s))) rfl rfl rfl rfl rfl (fun wx hx => exec_load_as _ _ _ _ (hdF c s) rfl isHead (zrb r_q hx) (by omega) (fun i _ => by rw [Nat.zero_add])) ?_
      simp only [Act.put, zA, zB, zC]
      refine stp_fn 47 40 _ _ _ (block_any c s _ HC63.out.1 HC63.out.2) rfl rfl rfl rfl Try.func40 (by kernel_rfl) (by kernel_rfl) (by go_simp) ?_
      rintro e wq47 ⟨v_47, rfl, o_47, kk⟩
      refine ⟨_, rfl, kk, ?_⟩
      replace f_b := zfb f_b kk
      replace r_x2 := zrb r_x2 kk
      replace r_q := zrb r_q kk
      have Bw8 := zbt HGS Bw7 kk
      clear Bw7 kk
      simp only [Act.put, zA, zB, zC]
      refine stp_fn 48 50 _ _ _ (equal_any _ _ (headL c s) (headL c s) _ f_b o_47.bs) rfl rfl rfl rfl Try.func50 (by kernel_rfl) (by kernel_rfl) (by go_simp) ?_
      rintro e wq48 ⟨rfl, rfl⟩
      refine ⟨_, rfl, Below.refl _ _, ?_⟩
      simp only [Act.put, zA, zB, zC]
      rw [show (headL c s == headL c s) = true from beq_self_eq_true _]
      refine lint_pure 49 _ _ (.bool false) rfl rfl rfl rfl rfl (fun wx hx => by unfold mkOp; go_simp; all_goals (with_reducible rfl)) ?_
      simp only [Act.put, zA, zB, zC]
      refine lint_pure 50 _ _ (.bool false) rfl rfl rfl rfl rfl (fun wx hx => by unfold mkOp; go_simp; all_goals (with_reducible rfl)) ?_
      simp only [Act.put, zA, zB, zC]
      refine lint_end ?_
      go_wp2_with (first
        | (refine wpList_load_as rfl 71 (.tmp 7) rfl 2 (hdF c s) isHead r_q rfl (by omega) (fun i _ => by rw [Nat.zero_add]) ?_)
        | (have hgo := Bw8; clear hgo
           refine wpList_store_as rfl 71 (.tmp 2) (.tmp 52) rfl 2 (hdF c s) isHead r_x2 rfl rfl (by omega) (fun j _ => by unfold hdF; split <;> rfl) (fun i hi => putN_whole hi) ?_
           intro wz q gk
           replace r_x2 := q
           have Bwz := zbg HGS Bw8 gk L_x2
           clear Bw8 q gk))
      exact ret_cell_as_tmp _ rfl isHead r_x2 rfl rfl (by omega) (fun _ _ => rfl) rfl ⟨rfl, Bwz⟩
  · skip
    refine lf_obj 7 71 2 (hdF 0 0) zeroHead rfl rfl rfl rfl ?_
    intro x7 wf7 lx7 r_x7 kk
    have L_x7 := Nat.le_trans HE.size lx7
    replace HE := HE.trans (Sam.of_below kk)
    clear kk lx7
    simp only [Act.put, zA, zB, zC]
    refine linf_fn 19 49 _ _ _ (get64_any _ _ _ (zfb f_8 HE.none)) rfl rfl rfl rfl Try.func49 (by kernel_rfl) (by kernel_rfl) (by go_simp) ?_
    rintro e wf19 ⟨rfl, rfl⟩
    refine ⟨_, rfl, Sam.refl _ _, ?_⟩
    rw [HN8.out]
    simp only [Act.put, zA, zB, zC]
    refine linf_pure 20 _ _ (.int .i64 (c : Int)) rfl rfl rfl rfl rfl (fun wx hx => by unfold mkOp; go_simp; all_goals (with_reducible rfl)) ?_
    simp only [Act.put, zA, zB, zC]
    refine linf_fn 25 49 _ _ _ (get64_any _ _ _ (zfb f_16 HE.none)) rfl rfl rfl rfl Try.func49 (by kernel_rfl) (by kernel_rfl) (by go_simp) ?_
    rintro e wf25 ⟨rfl, rfl⟩
    refine ⟨_, rfl, Sam.refl _ _, ?_⟩
    rw [HN16.out]
    simp only [Act.put, zA, zB, zC]
    refine linf_pure 26 _ _ (.int .i64 (s : Int)) rfl rfl rfl rfl rfl (fun wx hx => by unfold mkOp; go_simp; all_goals (with_reducible rfl)) ?_
    simp only [Act.put, zA, zB, zC]
    refine linf_pure 27 _ _ (.agg (arrOf 2 (hdF c s))) rfl rfl rfl rfl rfl (fun wx hx => exec_build_as _ _ _ (by simp only [List.map_toArray, List.map_cons, List.map_nil, Act.eval, zA, zB, zC]; exact builtHead c s)) ?_
    simp only [Act.put, zA, zB, zC]
    refine lf_last 71 (.tmp 7) (.tmp 27) rfl rfl rfl rfl r_x7 rfl rfl isHead (fun j _ => by unfold hdF; split <;> rfl) ?_
    intro w5 r_q gk
    have K5 : Below w3.heap.size w3 w5 := HE.none.grown gk HE.size fun k hk => by cases hk; exact L_x7
    have HQ5 : Hid (BkAt T D w5.drew dp S) := Lib.hid (dv_stay T D (fun _ => False) _ _ _ _ HQ3.out (Sam.of_below K5.drew) (fun _ h => h.elim))
    replace f_b := zfb f_b K5
    replace r_x2 := zrb r_x2 K5
    have Bw5 := zbt HGS Bw3 K5
    clear Bw3 K5 gk HE HQ3 r_x7 L_x7 f_8 f_16 hr_8 hr_16
    go_wp2
    replace f_b := f_b.drew
    replace r_x2 := r_x2.drew
    replace r_q := r_q.drew
    have Bw6 := Bw5.drew
    clear Bw5
    refine wp_region_lint (.rd 0 (.rd 1 (.rd 2 (.rd 3 (.rd 4 (.rd 5 (.rd 6 (.rd 7 (.rd 8 (.rd 9 (.rd 10 (.rd 11 (.wr 12 (.wr 13 (.rd 14 (.rd 15 (.rd 16 (.rd 17 (.rd 18 (.wr 19 (.wr 20 (.rd 21 (.rd 22 .done))))))))))))))))))))))) (by kernel_rfl) (by kernel_rfl) (by decide) (by kernel_rfl) (fun d _ _ _ _ h => by cases d <;> exact h) ?_
    refine lint_pure 28 _ _ (.pointer (some ⟨x7, 0, none⟩)) rfl rfl rfl rfl rfl (fun wx hx => by unfold mkOp; go_simp; all_goals (with_reducible rfl)) ?_
    simp only [Act.put, zA, zB, zC]
    refine lint_pure 29 _ _ (.int .i64 (c : Int)) rfl rfl rfl rfl rfl (fun wx hx => exec_loadG _ _ _ _ _ r_q (Sam.of_below (F := fun _ => False) hx) (fun h => h) rfl (by omega) rfl (by kernel_rfl)) ?_
    simp only [Act.put, zA, zB, zC]
    refine lint_pure 30 _ _ (.bool false) rfl rfl rfl rfl rfl (fun wx hx => by unfold mkOp; go_simp; all_goals (with_reducible rfl)) ?_
    simp only [Act.put, zA, zB, zC]
    refine lint_pure 31 _ _ (.bool false) rfl rfl rfl rfl rfl (fun wx hx => by unfold mkOp; go_simp; all_goals (with_reducible rfl)) ?_
    simp only [Act.put, zA, zB, zC]
    refine lint_pure 32 _ _ (.pointer (some ⟨x7, 1, none⟩)) rfl rfl rfl rfl rfl (fun wx hx => by unfold mkOp; go_simp; all_goals (with_reducible rfl)) ?_
    simp only [Act.put, zA, zB, zC]
    refine lint_pure 33 _ _ (.int .i64 (s : Int)) rfl rfl rfl rfl rfl (fun wx hx => exec_loadG _ _ _ _ _ r_q (Sam.of_below (F := fun _ => False) hx) (fun h => h) rfl (by omega) rfl (by kernel_rfl)) ?_
    simp only [Act.put, zA, zB, zC]
    refine lint_pure 34 _ _ (.bool false) rfl rfl rfl rfl rfl (fun wx hx => by unfold mkOp; go_simp; all_goals (with_reducible rfl)) ?_
    simp only [Act.put, zA, zB, zC]
    refine lint_pure 35 _ _ (.bool false) rfl rfl rfl rfl rfl (fun wx hx => by unfold mkOp; go_simp; all_goals (with_reducible rfl)) ?_
    simp only [Act.put, zA, zB, zC]
    refine lint_pure 36 _ _ (.bool false) rfl rfl rfl rfl rfl (fun wx hx => by unfold mkOp; go_simp; all_goals (with_reducible rfl)) ?_
    simp only [Act.put, zA, zB, zC]
    refine lint_pure 37 _ _ (.pointer (some ⟨x7, 1, none⟩)) rfl rfl rfl rfl rfl (fun wx hx => by unfold mkOp; go_simp; all_goals (with_reducible rfl)) ?_
    simp only [Act.put, zA, zB, zC]
    refine lint_pure 38 _ _ (.int .i64 (s : Int)) rfl rfl rfl rfl rfl (fun wx hx => exec_loadG _ _ _ _ _ r_q (Sam.of_below (F := fun _ => False) hx) (fun h => h) rfl (by omega) rfl (by kernel_rfl)) ?_
    simp only [Act.put, zA, zB, zC]
    refine lint_pure 39 _ _ (.pointer (some ⟨dp, 0, none⟩)) rfl rfl rfl rfl rfl (fun wx hx => by unfold mkOp; go_simp; all_goals (with_reducible rfl)) ?_
    simp only [Act.put, zA, zB, zC]
    refine stp_fn 40 24 _ _ _ (dv_len T D _ dp S B HQ5.out HS.out) rfl rfl rfl rfl Try.func24 (by kernel_rfl) (by kernel_rfl) (by go_simp) ?_
    rintro e wq40 ⟨rfl, kk⟩
    refine ⟨_, rfl, kk, ?_⟩
    replace f_b := zfb f_b kk
    replace r_x2 := zrb r_x2 kk
    replace r_q := zrb r_q kk
    have Bw7 := zbt HGS Bw6 kk
    clear Bw6 kk
    simp only [Act.put, zA, zB, zC]
    refine stp_fn 41 14 _ _ _ (roomS_any S.n _ HNN.out) rfl rfl rfl rfl Try.func14 (by kernel_rfl) (by kernel_rfl) (by go_simp) ?_
    rintro e wq41 ⟨rfl, rfl⟩
    refine ⟨_, rfl, Below.refl _ _, ?_⟩
    simp only [Act.put, zA, zB, zC]
    refine lint_pure 42 _ _ (.bool false) rfl rfl rfl rfl rfl (fun wx hx => by unfold mkOp; go_simp; all_goals (first | (with_reducible rfl) | exact HRN.out)) ?_
    simp only [Act.put, zA, zB, zC]
    refine lint_pure 43 _ _ (.bool false) rfl rfl rfl rfl rfl (fun wx hx => by unfold mkOp; go_simp; all_goals (with_reducible rfl)) ?_
    simp only [Act.put, zA, zB, zC]
    refine lint_pure 44 _ _ (.bool false) rfl rfl rfl rfl rfl (fun wx hx => by unfold mkOp; go_simp; all_goals (with_reducible rfl)) ?_
    simp only [Act.put, zA, zB, zC]
    refine lint_pure 45 _ _ (v_b) rfl rfl rfl rfl rfl (fun wx hx => by unfold mkOp; go_simp; all_goals (with_reducible rfl)) ?_
    simp only [Act.put, zA, zB, zC]
    refine lint_pure 46 _ _ (.agg (arrOf 2 (hdF c s))) rfl rfl rfl rfl rfl (fun wx hx => exec_load_as _ _ _ _ (hdF c s) rfl isHead (zrb r_q hx) (by omega) (fun i _ => by rw [Nat.zero_add])) ?_
    simp only [Act.put, zA, zB, zC]
    refine stp_fn 47 40 _ _ _ (block_any c s _ HC63.out.1 HC63.out.2) rfl rfl rfl rfl Try.func40 (by kernel_rfl) (by kernel_rfl) (by go_simp) ?_
    rintro e wq47 ⟨v_47, rfl, o_47, kk⟩
    refine ⟨_, rfl, kk, ?_⟩
    replace f_b := zfb f_b kk
    replace r_x2 := zrb r_x2 kk
    replace r_q := zrb r_q kk
    have Bw8 := zbt HGS Bw7 kk
    clear Bw7 kk
    simp only [Act.put, zA, zB, zC]
    refine stp_fn 48 50 _ _ _ (equal_any _ _ (headL c s) (headL c s) _ f_b o_47.bs) rfl rfl rfl rfl Try.func50 (by kernel_rfl) (by kernel_rfl) (by go_simp) ?_
    rintro e wq48 ⟨rfl, rfl⟩
    refine ⟨_, rfl, Below.refl _ _, ?_⟩
    simp only [Act.put, zA, zB, zC]
    rw [show (headL c s == headL c s) = true from beq_self_eq_true _]
    refine lint_pure 49 _ _ (.bool false) rfl rfl rfl rfl rfl (fun wx hx => by unfold mkOp; go_simp; all_goals (with_reducible rfl)) ?_
    simp only [Act.put, zA, zB, zC]
    refine lint_pure 50 _ _ (.bool false) rfl rfl rfl rfl rfl (fun wx hx => by unfold mkOp; go_simp; all_goals (with_reducible rfl)) ?_
    simp only [Act.put, zA, zB, zC]
    refine lint_end ?_
    go_wp2_with (first
      | (refine wpList_load_as rfl 71 (.tmp 7) rfl 2 (hdF c s) isHead r_q rfl (by omega) (fun i _ => by rw [Nat.zero_add]) ?_)
      | (have hgo := Bw8; clear hgo
         refine wpList_store_as rfl 71 (.tmp 2) (.tmp 52) rfl 2 (hdF c s) isHead r_x2 rfl rfl (by omega) (fun j _ => by unfold hdF; split <;> rfl) (fun i hi => putN_whole hi) ?_
         intro wz q gk
         replace r_x2 := q
         have Bwz := zbg HGS Bw8 gk L_x2
         clear Bw8 q gk))
    exact ret_cell_as_tmp _ rfl isHead r_x2 rfl rfl (by omega) (fun _ _ => rfl) rfl ⟨rfl, Bwz⟩
set_option maxHeartbeats 4000000 in
set_option maxRecDepth 20000 in
theorem headOf_nil (w : World) : Calls Try.prog 36 #[.pointer none] w fun e w' => e = .returned (.tuple #[.agg (arrOf 2 (hdF 0 0)), .bool true]) ∧ Below w.heap.size w w' := by
  have HGS : Hid (∀ wq : World, Below w.heap.size w wq → w.heap.size ≤ wq.heap.size) := Lib.hid fun wq h => h.size
  have Bw0 := Below.refl w.heap.size w
  go_enter Try.func36, Try.ntmps36
  go_wp2_with (first
    | (have hgo := Bw0; clear hgo
       refine wpList_alloc_row rfl 71 rfl 2 (hdF 0 0) zeroHead ?_
       intro x2 w1 lx r_x2 kk
       have L_x2 := zrl HGS Bw0 lx
       have Bw1 := zbt HGS Bw0 kk
       clear Bw0 kk lx)
    | (go_at_call 41
       refine (readN_any _ _).mono ?_
       rintro e w2 ⟨rfl, rfl⟩)
    | (have hgo := Bw1; clear hgo
       go_at_call 42
       refine (noughts_any _ _ _ (Bs.nil _) (by decide)).mono ?_
       rintro e w3 ⟨rfl, kk⟩
       rw [show (([] : List UInt8) == List.replicate ([] : List UInt8).length 0) = true from rfl]
       replace r_x2 := zrb r_x2 kk
       have Bw3 := zbt HGS Bw1 kk
       clear Bw1 kk)
    | (refine wval rfl (.build 71 #[]) rfl (.agg (arrOf 2 (hdF 0 0))) (exec_build_as _ _ _ builtHead0) ?_)
    | (have hgo := Bw3; clear hgo
       refine wpList_store_as rfl 71 (.tmp 2) (.tmp 15) rfl 2 (hdF 0 0) isHead r_x2 rfl rfl (by omega) (fun j _ => by unfold hdF; split <;> rfl) (fun i hi => putN_whole hi) ?_
       intro w4 q gk
       replace r_x2 := q
       have Bw4 := zbg HGS Bw3 gk L_x2
       clear Bw3 q gk))
  exact ret_cell_as_tmp _ rfl isHead r_x2 rfl rfl (by omega) (fun _ _ => rfl) rfl ⟨rfl, Bw4⟩
end Go.Proofs.Ytefabimolfcllaa

/- The program's store: its head, what was written is read, whether a device may be a store's. -/
namespace Go.Proofs.Ytefabimolfcllaa
open Go.RowKit Go.Deep
set_option linter.unusedSimpArgs false
set_option linter.unusedVariables false

theorem wappR {ops : Array Oper} {rest : List Oper} {o : Oper} {a : Act} {w : World} {Q : Exit → Act → World → Prop} (s x : Operand) (ho : o.op = .call { callee := .builtin .append, args := #[s, x], argTypes := #[28, 28] }) (hgd : o.guard = none) (base : Nat) (v vb : Value) (l lb : List UInt8) (hown : Owns w base v l) (hb : Bs w vb lb) (hs : a.eval s = v) (hx : a.eval x = vb) (hlen : l.length + lb.length ≤ 2147483647) (hbase : base ≤ w.heap.size)
    (h : ∀ v' w', Owns w' base v' (l ++ lb) → w.grownBy w' v.ownBlock → (v'.ownBlock = v.ownBlock ∨ ∀ b, v'.ownBlock = some b → w.heap.size ≤ b) → wpList Try.prog ops Q rest (a.put o.dst v') w') : wpList Try.prog ops Q (o :: rest) a w := by
  obtain ⟨v', w', hr, k1, k2, k3⟩ := exec_app a.eval s x o.type base v vb l lb hown hb hs hx hlen hbase
  exact wpList_plain hgd fun _ hK => by
    unfold Oper.wp
    rw [exec_mkOp, ho, hr]
    exact hK _ _ (h v' w' k1 k2 k3)
/-- 's[:k]' of bytes of one's own. -/
theorem takeO {w : World} {base : Nat} {v : Value} {l : List UInt8} (h : Owns w base v l) (k : Nat) (hk : k ≤ l.length) :
    ∃ v', Owns w base v' (l.take k) ∧ ∀ (ρ : Operand → Value) (x hi : Operand) (t : TypeId) (w0 : World), ρ x = v → ρ hi = .int .i64 (k : Int) → (execOp ρ (mkOp (.slice 28 x none (some hi) none) t)).run Try.prog w0 = .ok (.value v') w0 := by
  obtain ⟨ad, n, cap, e, hn, hc1, hc2, hB⟩ := h.bs.shape
  have hu := Try.underlying28
  have hr : ∀ (ρ : Operand → Value) (x hi : Operand) (t : TypeId) (w0 : World), ρ x = v → ρ hi = .int .i64 (k : Int) → (execOp ρ (mkOp (.slice 28 x none (some hi) none) t)).run Try.prog w0 = .ok (.value (.slice ad k cap)) w0 := fun ρ x hi t w0 hx hh => by
    rw [e] at hx
    simp [execOp, mkOp, hx, hh, run_toB (P := Try.prog) w0 28 5 ad n cap k hu (by kernel_rfl) (by omega), Result.andThen]
  refine ⟨_, ?_, hr⟩
  obtain ⟨h1, h2⟩ := h
  have hl : (l.take k).length = k := by rw [List.length_take]; omega
  refine ⟨by simp [u8s], ?_⟩
  rcases h2 with ⟨rfl, h0⟩ | ⟨g, cap', cur, rfl, hb, hg, hle, hm, hs, ht⟩
  · cases e
    obtain rfl : k = 0 := by omega
    exact .inl ⟨rfl, by simp⟩
  · cases e
    refine .inr ⟨g, cap, cur, by rw [hl], hb, hg, by rw [hl]; omega, hm, hs, ?_⟩
    rw [hl]
    have h3 : u8s (l.take k) = (u8s l).take k := by unfold u8s; rw [List.map_take]
    rw [h3, ← ht, List.take_take, Nat.min_eq_left (by simp; omega), Nat.mul_one]
/-- What was read of the first i pieces. -/
def outN (b : List UInt8) : Nat → List UInt8
  | 0 => []
  | i + 1 => outN b i ++ (markedL (pieceL b i)).drop 8
theorem marked_drop (l : List UInt8) : (markedL l).drop 8 = l ++ List.replicate (56 - l.length) 0 := by
  unfold markedL
  rw [List.append_assoc, List.drop_left' (by rfl)]
theorem outN_len (b : List UInt8) : ∀ i, (outN b i).length = 56 * i
  | 0 => rfl
  | i + 1 => by
    have h := pieceL_len b i
    rw [outN, List.length_append, outN_len b i, List.length_drop, markedL_len _ h]
    omega
theorem outN_take (b : List UInt8) : ∀ i, (outN b i).take b.length = b.take (56 * i)
  | 0 => by simp [outN]
  | i + 1 => by
    rw [outN, List.take_append, outN_take b i, outN_len, marked_drop, show 56 * (i + 1) = 56 * i + 56 by omega, List.take_add]
    congr 1
    have hl : (pieceL b i).length = min 56 (b.length - 56 * i) := by simp [pieceL]
    show _ = pieceL b i
    rcases Nat.lt_or_ge (b.length - 56 * i) 56 with h | h
    · rw [List.take_append_of_le_length (by omega)]
      exact List.take_of_length_le (by omega)
    · rw [show 56 - (pieceL b i).length = 0 by omega, List.replicate_zero, List.append_nil]
      exact List.take_of_length_le (by omega)
theorem outN_all (b : List UInt8) (i : Nat) (h : b.length ≤ 56 * i) : (outN b i).take b.length = b := by
  rw [outN_take]; exact List.take_of_length_le h
/-- The head of a device that holds x. -/
theorem headOf_any (T D : Nat → Prop) (w : World) (dp B : Nat) (S : DS) (x : Ct) (h : BkAt T D w dp S) (hs : okD S B) (hB : B ≤ 100000) (H : Holds (nowS S) S.n x) : Calls Try.prog 36 #[.pointer (some ⟨dp, 0, none⟩)] w fun e w' => e = .returned (.tuple #[.agg (arrOf 2 (hdF x.2 x.1.length)), .bool true]) ∧ Below w.heap.size w w' := by
  have hh := H.head
  unfold headB at hh
  by_cases h0 : x.2 = 0
  · rw [if_pos h0] at hh
    rw [h0, H.nil h0]
    exact headOf_zero T D w dp B S h hs hB hh
  · rw [if_neg h0] at hh
    exact headOf_some T D w dp B x.2 x.1.length S h hs hB hh (by omega) H.cnt H.room H.n2
set_option maxHeartbeats 4000000 in
set_option maxRecDepth 20000 in
theorem read_any (T D : Nat → Prop) (w : World) (dp B : Nat) (S : DS) (b : List UInt8) (c : Nat) (h : BkAt T D w dp S) (hs : okD S B) (hB : B ≤ 100000) (H : Holds (nowS S) S.n (b, c)) : Calls Try.prog 37 #[.agg (arrOf 2 (hdF c b.length)), .pointer (some ⟨dp, 0, none⟩)] w fun e w' => ∃ v, e = .returned v ∧ Owns w' w.heap.size v b ∧ Below w.heap.size w w' := by
  have HS := Lib.hid hs
  have HB := Lib.hid hB
  have HH := Lib.hid H
  have HA := Lib.hid h
  obtain ⟨N, hN⟩ : ∃ N, N = b.length := ⟨_, rfl⟩
  have HN := Lib.hid hN
  have HN2 : Hid (N ≤ 5120) := Lib.hid (by have := H.room; have := H.n2; unfold roomN at *; simp only [] at *; split at * <;> omega)
  rw [← hN]
  have HGS : Hid (∀ wq : World, Below w.heap.size w wq → w.heap.size ≤ wq.heap.size) := Lib.hid fun wq h => h.size
  have Bw0 := Below.refl w.heap.size w
  clear hs hB H h hN
  go_enter Try.func37, Try.ntmps37
  go_wp2_with (first
    | (have hgo := Bw0; clear hgo
       refine wpList_box_row rfl 71 (.tmp 0) rfl 2 (hdF c N) rfl ?_
       intro x2 w1 lx r_x2 kk
       have HQ := Lib.hid (dv_stay T D (fun _ => False) _ _ _ _ HA.out (Sam.of_below kk) (fun _ h => h.elim))
       have L1 : Hid (w.heap.size ≤ w1.heap.size) := Lib.hid kk.size
       have Bw1 := zbt HGS Bw0 kk
       clear Bw0 kk lx))
  have HR2 := Lib.hid r_x2
  clear r_x2
  go_loopw [5, 6] (fun ov iv wr => ∃ i : Nat, iv = .int .i64 (i : Int) ∧ i ≤ pcs N ∧ Owns wr w1.heap.size ov (outN b i) ∧ Below w1.heap.size w1 wr) (fun _ iv _ => pcs N - (intOf iv).toNat)
  case atStart => exact ⟨0, rfl, Nat.zero_le _, Owns.nil _ _, Below.refl _ _⟩
  case round =>
    obtain ⟨i, rfl, hi, ho, hw⟩ := hrel
    obtain ⟨ao, no, co, rfl, hno, h1, h2, hBo⟩ := ho.bs.shape
    rw [outN_len] at hno
    have HO := Lib.hid ho
    have Bk0 := hw
    have r_x2 := zrb HR2.out hw
    have HG1 : Hid (∀ wq : World, Below w1.heap.size w1 wq → w1.heap.size ≤ wq.heap.size) := Lib.hid fun wq h => h.size
    by_cases hlt : no < N
    · have c1 : (no : Int) < (N : Int) := by omega
      have hip : i < pcs N := by unfold pcs; omega
      have HI := Lib.hid hip
      have HI2 : Hid (i ≤ 100000) := Lib.hid (by have := HN2.out; unfold pcs at hip; omega)
      have hpl := room_pcs HH.out.n2 HH.out.room (by rw [← HN.out]; exact hip) c
      have HP : Hid (0 ≤ ((placeN c i : Nat) : Int) ∧ ((placeN c i : Nat) : Int) < (S.n : Int)) := Lib.hid (by have := hpl.1; omega)
      have HAT := Lib.hid (HH.out.at_ i (by rw [← HN.out]; exact hip))
      have hwi : IntKind.i64.wrap ((i : Int) + 1) = ((i + 1 : Nat) : Int) := by rw [IntWalk.i64_in _ (by have := HI2.out; omega)]; omega
      obtain ⟨i1, hi1⟩ : ∃ i1, i1 = i + 1 := ⟨_, rfl⟩
      rw [← hi1] at hwi
      have HI1 := Lib.hid hi1
      have HL : Hid ((outN b i).length + 56 ≤ 2147483647) := Lib.hid (by rw [outN_len]; have := HI2.out; omega)
      have HM : Hid ((outN b i).length = no) := Lib.hid (by rw [outN_len]; exact hno)
      clear hlt hip hpl hi1 hno h1 h2 hBo hi ho hw
      go_wp2_with (first
        | (refine wpList_loadG 3 (.tmp 11) rfl rfl (.int .i64 (N : Int)) r_x2 rfl (by omega) rfl (by kernel_rfl) ?_)
        | (refine wpList_load_as rfl 71 (.tmp 2) rfl 2 (hdF c N) isHead r_x2 rfl (by omega) (fun i _ => by rw [Nat.zero_add]) ?_)
        | (have hgo := Bk0; clear hgo
           go_at_call 51
           refine (place_any c N i _ (by have := HH.out.cnt; simp only [] at this; omega) HI2.out).mono ?_
           rintro e w2 ⟨rfl, kk⟩
           have HO2 := Lib.hid (HO.out.sam (M := fun _ => False) (Sam.of_below kk) (fun _ _ h => h))
           replace r_x2 := zrb r_x2 kk
           have Bk2 := zbt HG1 Bk0 kk
           clear Bk0 kk HO)
        | (have hgo := Bk2; clear hgo
           go_at_call 41
           refine (dv_read T D _ dp S B _ (dv_stay T D (fun _ => False) _ _ _ _ HQ.out (Sam.of_below Bk2) (fun _ h => h.elim)) HS.out HB.out).mono ?_
           rintro e w3 ⟨v_b, rfl, f_b, kk⟩
           rw [if_pos HP.out] at f_b ⊢
           rw [Int.toNat_natCast, HAT.out] at f_b
           have HO3 := Lib.hid (HO2.out.sam (M := fun _ => False) (Sam.of_below kk) (fun _ _ h => h))
           replace r_x2 := zrb r_x2 kk
           have Bk3 := zbt HG1 Bk2 kk
           clear Bk2 kk HO2
           have HD8 := Lib.hid (dropB f_b 8 (by rw [markedL_len _ (pieceL_len b i)]; omega)))
        | (have hgo := HD8; clear hgo
           obtain ⟨v_d, f_d, hr_d⟩ := HD8.out
           refine wval rfl _ rfl v_d (by exact hr_d _ _ _ _ _ rfl rfl) ?_
           clear HD8 hr_d)
        | (have hgo := Bk3; clear hgo
           refine wappR (.tmp 24) (.tmp 26) rfl rfl w1.heap.size _ _ _ _ HO3.out f_d rfl rfl (by rw [List.length_drop, markedL_len _ (pieceL_len b i)]; exact HL.out) Bk3.size ?_
           intro v4 w4 o4 gk hsm
           have L4 := HG1.out _ Bk3
           have Bk4 : Below w1.heap.size w1 w4 := Bk3.grown gk L4 (fun k hk => Owns.block HO3.out k hk)
           clear Bk3 gk hsm f_b f_d))
      go_roundw
      case rel => exact ⟨i1, rfl, by have := HI1.out; have := HI.out; omega, by rw [HI1.out]; exact o4, Bk4⟩
      case measure => have := HI1.out; have := HI.out; simp [intOf]; omega
    · have c1 : ¬ (no : Int) < (N : Int) := by omega
      obtain ⟨v_t, o_t, hr_t⟩ := takeO ho N (by rw [outN_len]; omega)
      rw [HN.out, outN_all b i (by have := HN.out; omega)] at o_t
      have HRT := Lib.hid hr_t
      have Bz := Bw1.trans (hw.mono L1.out)
      clear hr_t hlt hno h1 h2 hBo hi hw ho HO Bk0
      go_wp2_with (first
        | (refine wpList_loadG 3 (.tmp 11) rfl rfl (.int .i64 (N : Int)) r_x2 rfl (by omega) rfl (by kernel_rfl) ?_)
        | (refine wpList_loadG 3 (.tmp 29) rfl rfl (.int .i64 (N : Int)) r_x2 rfl (by omega) rfl (by kernel_rfl) ?_)
        | (refine wval rfl _ rfl v_t (by exact HRT.out _ _ _ _ _ rfl rfl) ?_))
      go_ret
      exact ⟨_, rfl, o_t.lower L1.out, Bz⟩
end Go.Proofs.Ytefabimolfcllaa

/- The program's store: whether a device may be a store's. -/
namespace Go.Proofs.Ytefabimolfcllaa
open Go.RowKit Go.Deep
set_option linter.unusedSimpArgs false
set_option linter.unusedVariables false

def litM : Array Value := #[.int .u8 109, .int .u8 105, .int .u8 115, .int .u8 115, .int .u8 105, .int .u8 118, .int .u8 101, .int .u8 58]
theorem exec_litM (a : Act) (t : TypeId) (w : World) : (execOp a.eval (mkOp (.buildSlice 28 8 #[(0, .const (.int .u8 109)), (1, .const (.int .u8 105)), (2, .const (.int .u8 115)), (3, .const (.int .u8 115)), (4, .const (.int .u8 105)), (5, .const (.int .u8 118)), (6, .const (.int .u8 101)), (7, .const (.int .u8 58))]) t)).run Try.prog w = .ok (.value (.slice (some ⟨w.heap.size, 0, none⟩) 8 8)) (w.alloc (.cells litM 5)) := by
  unfold litM
  simp only [execOp, mkOp, List.map_toArray, List.map_cons, List.map_nil, eval_const]
  go_simp
theorem exec_cvM (a : Act) (x : Operand) (t : TypeId) (w : World) (hx : a.eval x = .slice (some ⟨w.heap.size, 0, none⟩) 8 8) : (execOp a.eval (mkOp (.convert 28 28 x) t)).run Try.prog (w.alloc (.cells litM 5)) = .ok (.value (.slice (some ⟨w.heap.size, 0, none⟩) 8 8)) (w.alloc (.cells litM 5 (8, 9))) := by
  have hr := Lib.run_convert_bytes_const (P := Try.prog) w 28 5 litM 8 8 Try.underlying28 Try.underlying5
  rw [show litM.size = 8 from rfl] at hr
  simp [execOp, mkOp, hx, hr, Result.andThen]
theorem wlitM {ops : Array Oper} {rest : List Oper} {o o' : Oper} {a : Act} {w : World} {Q : Exit → Act → World → Prop} (x : Operand) (ho : o.op = .buildSlice 28 8 #[(0, .const (.int .u8 109)), (1, .const (.int .u8 105)), (2, .const (.int .u8 115)), (3, .const (.int .u8 115)), (4, .const (.int .u8 105)), (5, .const (.int .u8 118)), (6, .const (.int .u8 101)), (7, .const (.int .u8 58))]) (hw : Region.wanted o (yielded ops a.tmps) = true) (ho' : o'.op = .convert 28 28 x) (hw' : ∀ v, Region.wanted o' (yielded ops (a.put o.dst v).tmps) = true) (hx : ∀ v, (a.put o.dst v).eval x = v)
    (h : ∀ v v' w', (∀ M : Nat → Prop, (∀ b, M b → b < w.heap.size) → BsK M w' v' [109, 105, 115, 115, 105, 118, 101, 58]) → Below w.heap.size w w' → wpList Try.prog ops Q rest ((a.put o.dst v).put o'.dst v') w') : wpList Try.prog ops Q (o :: o' :: rest) a w := by
  exact wpList_given hw fun _ hK => by
    unfold Oper.wp
    rw [exec_mkOp, ho, exec_litM]
    refine hK _ _ (wpList_given (hw' _) fun _ hK' => ?_)
    unfold Oper.wp
    rw [exec_mkOp, ho', exec_cvM _ _ _ _ (hx _)]
    exact hK' _ _ (h _ _ _ (fun M hM w2 s => bs_block (Bs.litS w [109, 105, 115, 115, 105, 118, 101, 58] (8, 9) 8 rfl (by unfold maxLen; omega)) s.size (s.block _ (by simp) (fun hm => absurd (hM _ hm) (Nat.lt_irrefl _)))) ((Below.refl _ _).alloc (Nat.le_refl _) _))
theorem okB_first {l : List UInt8} (h : l.take 8 = markB) : (l == List.replicate l.length 0) = false := by
  cases hh : (l == List.replicate l.length 0) with
  | false => rfl
  | true =>
    have h2 := eq_of_beq hh
    rw [h2, List.take_replicate] at h
    have h3 : (List.replicate (min 8 l.length) (0 : UInt8)).length = 8 := by rw [h]; rfl
    rw [List.length_replicate] at h3
    rw [h3] at h
    exact absurd h (by decide)
set_option maxHeartbeats 4000000 in
set_option maxRecDepth 20000 in
theorem isStore_any (T D : Nat → Prop) (w : World) (dp B : Nat) (S : DS) (x : Ct) (h : BkAt T D w dp S) (hs : okD S B) (hB : B ≤ 100000) (H : Holds (nowS S) S.n x) : Calls Try.prog 26 #[.pointer (some ⟨dp, 0, none⟩)] w fun e w' => e = .returned (.bool true) ∧ Below w.heap.size w w' := by
  have HS := Lib.hid hs
  have HB := Lib.hid hB
  have HH := Lib.hid H
  have HA := Lib.hid h
  have HN2 : Hid (S.n ≤ 256) := Lib.hid H.n2
  have HGS : Hid (∀ wq : World, Below w.heap.size w wq → w.heap.size ≤ wq.heap.size) := Lib.hid fun wq h => h.size
  have Bw0 := Below.refl w.heap.size w
  clear hs hB H h
  go_enter Try.func26, Try.ntmps26
  go_wp2_with (first
    | (have hgo := Bw0; clear hgo
       go_at_call 24
       refine (dv_len T D _ dp S B HA.out HS.out).mono ?_
       rintro e w1 ⟨rfl, kk⟩
       have HQ := Lib.hid (dv_stay T D (fun _ => False) _ _ _ _ HA.out (Sam.of_below kk) (fun _ h => h.elim))
       have L1 : Hid (w.heap.size ≤ w1.heap.size) := Lib.hid kk.size
       have Bw1 := zbt HGS Bw0 kk
       clear Bw0 kk))
  go_loopw [10] (fun iv wr => ∃ i : Nat, iv = .int .i64 (i : Int) ∧ i ≤ S.n ∧ Below w1.heap.size w1 wr) (fun iv _ => S.n - (intOf iv).toNat)
  case atStart => exact ⟨0, rfl, Nat.zero_le _, Below.refl _ _⟩
  case round =>
    obtain ⟨i, rfl, hi, hw⟩ := hrel
    have Bk0 := hw
    have HG1 : Hid (∀ wq : World, Below w1.heap.size w1 wq → w1.heap.size ≤ wq.heap.size) := Lib.hid fun wq h => h.size
    by_cases hlt : i < S.n
    · have c1 : (i : Int) < (S.n : Int) := by omega
      have HI := Lib.hid hlt
      have HP : Hid (0 ≤ (i : Int) ∧ (i : Int) < (S.n : Int)) := Lib.hid (by omega)
      have hwi : IntKind.i64.wrap ((i : Int) + 1) = ((i + 1 : Nat) : Int) := by rw [IntWalk.i64_in _ (by have := HN2.out; omega)]; omega
      obtain ⟨i1, hi1⟩ : ∃ i1, i1 = i + 1 := ⟨_, rfl⟩
      rw [← hi1] at hwi
      have HI1 := Lib.hid hi1
      obtain ⟨l, hl⟩ : ∃ l, l = nowS S i := ⟨_, rfl⟩
      have HAT := Lib.hid hl.symm
      have hok := HH.out.ok i hlt
      rw [← hl] at hok
      have HLL : Hid (l.length = 64) := Lib.hid (by rw [hl]; exact nowS_len HS.out i hlt)
      clear hlt hi1 hi hw hl
      rcases hok with rfl | hm
      · skip
        go_wp2_with (first
          | (have hgo := Bk0; clear hgo
             go_at_call 41
             refine (dv_read T D _ dp S B _ (dv_stay T D (fun _ => False) _ _ _ _ HQ.out (Sam.of_below Bk0) (fun _ h => h.elim)) HS.out HB.out).mono ?_
             rintro e w3 ⟨v_b, rfl, f_b, kk⟩
             rw [if_pos HP.out] at f_b ⊢
             rw [Int.toNat_natCast, HAT.out] at f_b
             have Bk3 := zbt HG1 Bk0 kk
             clear Bk0 kk)
          | (have hgo := Bk3; clear hgo
             go_at_call 42
             refine (noughts_any _ _ _ f_b (by decide)).mono ?_
             rintro e w4 ⟨rfl, kk⟩
             rw [show (zeroB == List.replicate zeroB.length 0) = true from rfl]
             have Bk4 := zbt HG1 Bk3 kk
             clear Bk3 kk f_b))
        go_roundw
        case rel => exact ⟨i1, rfl, by have := HI1.out; have := HI.out; omega, Bk4⟩
        case measure => have := HI1.out; have := HI.out; simp [intOf]; omega
      · have HNZ := Lib.hid (okB_first hm)
        have HT8 : Hid ((l.take ([109, 105, 115, 115, 105, 118, 101, 58] : List UInt8).length == [109, 105, 115, 115, 105, 118, 101, 58]) = true) := Lib.hid (by rw [show ([109, 105, 115, 115, 105, 118, 101, 58] : List UInt8).length = 8 from rfl, hm]; rfl)
        clear hm
        go_wp2_with (first
          | (have hgo := Bk0; clear hgo
             go_at_call 41
             refine (dv_read T D _ dp S B _ (dv_stay T D (fun _ => False) _ _ _ _ HQ.out (Sam.of_below Bk0) (fun _ h => h.elim)) HS.out HB.out).mono ?_
             rintro e w3 ⟨v_b, rfl, f_b, kk⟩
             rw [if_pos HP.out] at f_b ⊢
             rw [Int.toNat_natCast, HAT.out] at f_b
             have Bk3 := zbt HG1 Bk0 kk
             clear Bk0 kk)
          | (have hgo := Bk3; clear hgo
             go_at_call 42
             refine (noughts_any _ _ _ f_b (by rw [HLL.out]; decide)).mono ?_
             rintro e w4 ⟨rfl, kk⟩
             rw [HNZ.out]
             replace f_b := zfb f_b kk
             have Bk4 := zbt HG1 Bk3 kk
             clear Bk3 kk)
          | (have hgo := Bk4; clear hgo
             refine wlitM (.tmp 24) rfl rfl rfl (fun _ => rfl) (fun _ => rfl) ?_
             intro v_1 v_m w5 f_m kk
             have HFM := Lib.hid (f_m (fun _ => False) (fun _ h => h.elim)).bs
             replace f_b := zfb f_b kk
             have Bk5 := zbt HG1 Bk4 kk
             clear Bk4 kk f_m)
          | (have hgo := HFM; clear hgo
             go_at_call 43
             refine (hasPrefix_any _ _ _ [109, 105, 115, 115, 105, 118, 101, 58] _ f_b HFM.out (by rw [HLL.out]; decide)).mono ?_
             rintro e w6 ⟨rfl, rfl⟩
             rw [HT8.out]
             clear HFM))
        go_roundw
        case rel => exact ⟨i1, rfl, by have := HI1.out; have := HI.out; omega, Bk5⟩
        case measure => have := HI1.out; have := HI.out; simp [intOf]; omega
    · have c1 : ¬ (i : Int) < (S.n : Int) := by omega
      have HQ2 := Lib.hid (dv_stay T D (fun _ => False) _ _ _ _ HQ.out (Sam.of_below hw) (fun _ h => h.elim))
      have Bz := Bw1.trans (hw.mono L1.out)
      clear hlt hi hw Bk0
      go_wp2_with (first
        | (have hgo := Bz; clear hgo
           go_at_call 36
           refine (headOf_any T D _ dp B S x HQ2.out HS.out HB.out HH.out).mono ?_
           rintro e w3 ⟨rfl, kk⟩
           have Bz3 := zbt HGS Bz kk
           clear Bz kk)
        | (have hgo := Bz3; clear hgo
           refine wpList_alloc_row rfl 71 rfl 2 (hdF 0 0) zeroHead ?_
           intro x6 w6 lx r_x6 kk
           have L_x6 := zrl HGS Bz3 lx
           have Bz6 := zbt HGS Bz3 kk
           clear Bz3 kk lx)
        | (have hgo := Bz6; clear hgo
           refine wpList_store_as rfl 71 (.tmp 6) (.tmp 33) rfl 2 (hdF x.2 x.1.length) isHead r_x6 rfl rfl (by omega) (fun j _ => by unfold hdF; split <;> rfl) (fun i hi => putN_whole hi) ?_
           intro w7 q gk
           have Bz7 := zbg HGS Bz6 gk L_x6
           clear Bz6 q gk))
      go_ret
      exact ⟨rfl, Bz7⟩
end Go.Proofs.Ytefabimolfcllaa

/- slices.Chunk of bytes: what it yields. -/
namespace Go.Proofs.Ytefabimolfcllaa
open Go.RowKit Go.Deep
set_option linter.unusedSimpArgs false
set_option linter.unusedVariables false
attribute [local go_sem] Oper.semAt_some

theorem exec_sliceFromS {w : World} (ρ : Operand → Value) (x lo : Operand) (t : TypeId) {ax : Addr} {N cap i m c : Nat} (hx : ρ x = .slice (some ax) N cap) (hl : ρ lo = .int .i64 (i : Int)) (hi : i < N) (hc : N ≤ cap) (hm : m = N - i) (hc2 : c = cap - i) :
    (execOp ρ (mkOp (.slice 28 x (some lo) none none) t)).run Try.prog w = .ok (.value (.slice (some (ax.add i)) m c)) w := by
  subst hm hc2
  have h := run_sliceFrom (P := Try.prog) w 28 5 (some ax) N cap i .i64 Try.underlying28 (by kernel_rfl) (by omega)
  rw [if_neg (by omega)] at h
  simp [execOp, mkOp, hx, hl, h, Result.andThen]
theorem exec_minN {w : World} (ρ : Operand → Value) (x y : Operand) (t : TypeId) {i j e : Nat} (hx : ρ x = .int .i64 (i : Int)) (hy : ρ y = .int .i64 (j : Int)) (he : e = min i j) :
    (execOp ρ (mkOp (.call { callee := .builtin .min, args := #[x, y], argTypes := #[3, 3] }) t)).run Try.prog w = .ok (.value (.int .i64 (e : Int))) w := by
  subst he
  have e2 : ((min i j : Nat) : Int) = if (j : Int) < (i : Int) then (j : Int) else (i : Int) := by split <;> omega
  rw [e2]
  simp [execOp, mkOp, resolve, invoke, builtin, hx, hy, run_min_int2, Result.andThen]
/-- The j-th piece of a slice of N. -/
def encP (ax : Addr) (N j : Nat) : Value := .slice (some (ax.add (56 * j))) (min 56 (N - 56 * j)) (min 56 (N - 56 * j))
theorem run_piece (W : World) (ax : Addr) (N cap k i u : Nat) (hi : i = 56 * k) (hu : u = i + min 56 (N - i)) (hlt : i < u) (hc : u ≤ cap) :
    (Instr.sliceAt 28 (.slice (some ax) N cap) (some (.int .i64 (i : Int))) (some (.int .i64 (u : Int))) (some (.int .i64 (u : Int)))).run Try.prog W = .ok (encP ax N k) W := by
  have hz : (Try.prog.info? 5).map (fun i => i.size) = some 1 := by kernel_rfl
  have e : min 56 (N - 56 * k) = u - i := by omega
  unfold encP
  rw [e, ← hi]
  cases hq : Try.prog.info? 5 with
  | none => simp [hq] at hz
  | some x =>
    have hs : x.size = 1 := by simpa [hq] using hz
    have hne : ¬ u = i := by omega
    simp [Instr.sliceAt, run_underlying Try.underlying28 W, Instr.slice, Instr.sliceBounds, run_bound_in W .i64 u cap _ hc, run_bound_in W .i64 u u _ (Nat.le_refl _), run_bound_in W .i64 i u _ (Nat.le_of_lt hlt), sizeOf, typeInfo, hq, hs, hne, Result.andThen]
set_option maxHeartbeats 4000000 in
set_option maxRecDepth 20000 in
theorem chunk_any (a : Option Addr) (n c : Nat) (w : World) : Calls Try.prog 52 #[.slice a n c, .int .i64 56] w fun e w' => ∃ b1 b2, e = .returned (.func (.func 61) #[] #[.pointer (some ⟨b1, 0, none⟩), .pointer (some ⟨b2, 0, none⟩)]) ∧ w.heap.size ≤ b1 ∧ w.heap.size ≤ b2 ∧ b1 < w'.heap.size ∧ b2 < w'.heap.size ∧ w'.cell? ⟨b1, 0, none⟩ = some (.slice a n c) ∧ w'.cell? ⟨b2, 0, none⟩ = some (.int .i64 56) ∧ Below w.heap.size w w' := by
  go_enter Try.func52, Try.ntmps52
  go_wp2
  go_ret
  refine ⟨w.heap.size, w.heap.size + 1, by simp, Nat.le_refl _, Nat.le_succ _, by simp; omega, by simp, ?_, ?_, ((Below.refl _ w).alloc (Nat.le_refl _) _).alloc (by simp) _⟩
  · exact World.rowIs.cell ((rowIs_arr w 1 (fun _ => .slice a n c) 28).alloc (.cells #[.int .i64 56] 3)) (i := 0) (by omega)
  · have h := World.rowIs.cell (rowIs_arr (w.alloc (.cells #[.slice a n c] 28)) 1 (fun _ => .int .i64 56) 3) (i := 0) (by omega)
    rw [World.size_alloc] at h
    exact h
set_option maxHeartbeats 4000000 in
set_option maxRecDepth 20000 in
theorem chunk1_iter (n b1 b2 : Nat) (hn : 1 ≤ n) (ax : Addr) (N cap : Nat) (hN : N ≤ 100000) (hNc : N ≤ cap) : IterN Fence.wide n Try.prog 61 #[.pointer (some ⟨b1, 0, none⟩), .pointer (some ⟨b2, 0, none⟩)] (encP ax N) (pcs N) (fun W => W.cell? ⟨b1, 0, none⟩ = some (.slice (some ax) N cap) ∧ W.cell? ⟨b2, 0, none⟩ = some (.int .i64 56) ∧ b1 < W.heap.size ∧ b2 < W.heap.size) := by
  intro l J Jx W hC hdr hY h0
  have HC := Lib.hid hC
  have HDR := Lib.hid hdr
  have HY := Lib.hid hY
  have HN := Lib.hid (And.intro hN hNc)
  have hro : Fence.wide.round = none := rfl
  refine callsIn_of_wp Try.func61 rfl trivial ?_ rfl
  simp only [Try.ntmps61, List.size_toArray, List.length_cons, List.length_nil, Nat.reduceAdd, Nat.reduceSub, Array.replicate_succ, Array.replicate_zero, List.push_toArray, List.append_toArray, List.nil_append, List.cons_append]
  clear hC hdr hY hN hNc
  gi_wp2
  gi_loopw [4] (fun iv wr => ∃ k : Nat, iv = .int .i64 ((56 * k : Nat) : Int) ∧ k ≤ pcs N ∧ J k wr) (fun iv _ => N + 56 - (intOf iv).toNat)
  case atStart => exact ⟨0, rfl, Nat.zero_le _, h0⟩
  case round =>
    clear h0
    obtain ⟨k, rfl, hk, hJ⟩ := hrel
    obtain ⟨hc1, hc2, hl1, hl2⟩ := HC.out k wr hJ
    obtain ⟨i, hi⟩ : ∃ i, i = 56 * k := ⟨_, rfl⟩
    rw [← hi]
    by_cases hlt : i < N
    · have c1 : (i : Int) < (N : Int) := by omega
      obtain ⟨m, hm⟩ : ∃ m, m = N - i := ⟨_, rfl⟩
      obtain ⟨e, he⟩ : ∃ e, e = min 56 m := ⟨_, rfl⟩
      obtain ⟨u, hu⟩ : ∃ u, u = i + e := ⟨_, rfl⟩
      have hw1 : IntKind.i64.wrap ((i : Int) + (e : Int)) = (u : Int) := by rw [IntWalk.i64_in _ (by have := HN.out; omega)]; omega
      have hkl : k < pcs N := by unfold pcs; omega
      obtain ⟨fn, tmps, assign, body, hy, hR⟩ := HY.out k wr.drew (HDR.out k wr hJ) hkl
      obtain ⟨V, hV⟩ : ∃ V, V = encP ax N k := ⟨_, rfl⟩
      rw [← hV] at hy
      have hS : ∀ W : World, (Instr.sliceAt 28 (.slice (some ax) N cap) (some (.int .i64 (i : Int))) (some (.int .i64 (u : Int))) (some (.int .i64 (u : Int)))).run Try.prog W = .ok V W := fun W => by
        rw [hV]
        have hn := HN.out
        exact run_piece W ax N cap k i u (by omega) (by omega) (by omega) (by omega)
      have HI := Lib.hid hi
      have HLT := Lib.hid hlt
      have HM := Lib.hid hm
      have HE := Lib.hid he
      have HU := Lib.hid hu
      have HV := Lib.hid hV
      have HKL := Lib.hid hkl
      have HK := Lib.hid hk
      clear hi hlt hm he hu hV hkl hk
      gi_wp2
      refine wpIn_wide.2 ?_
      refine wp_region_lint (.rd 0 (.rd 1 (.rd 2 (.rd 3 (.rd 4 (.rd 5 (.rd 6 .done))))))) (by kernel_rfl) (by kernel_rfl) (by decide) (by kernel_rfl) (fun d _ _ _ _ h => by cases d <;> exact h) ?_
      refine lint_pure 13 _ _ (.int .i64 56) rfl rfl rfl rfl rfl (fun wx hx => exec_load_cell _ _ _ _ rfl (by kernel_rfl) ((hx.cell (p := ⟨b2, 0, none⟩) hl2).trans hc2)) ?_
      simp only [Act.put, zA, zB, zC]
      refine lint_pure 14 _ _ (.slice (some ax) N cap) rfl rfl rfl rfl rfl (fun wx hx => exec_load_cell _ _ _ _ rfl (by kernel_rfl) ((hx.cell (p := ⟨b1, 0, none⟩) hl1).trans hc1)) ?_
      simp only [Act.put, zA, zB, zC]
      refine lint_pure 15 _ _ (.int .i64 (i : Int)) rfl rfl rfl rfl rfl (fun wx hx => by unfold mkOp; go_simp; all_goals (with_reducible rfl)) ?_
      simp only [Act.put, zA, zB, zC]
      refine lint_pure 16 _ _ (.slice (some (ax.add i)) m (cap - i)) rfl rfl rfl rfl rfl (fun wx hx => exec_sliceFromS _ _ _ _ rfl rfl HLT.out HN.out.2 HM.out rfl) ?_
      simp only [Act.put, zA, zB, zC]
      refine lint_pure 17 _ _ (.int .i64 (m : Int)) rfl rfl rfl rfl rfl (fun wx hx => by unfold mkOp; go_simp; all_goals (with_reducible rfl)) ?_
      simp only [Act.put, zA, zB, zC]
      refine lint_pure 18 _ _ (.int .i64 (e : Int)) rfl rfl rfl rfl rfl (fun wx hx => exec_minN _ _ _ _ (i := 56) rfl rfl HE.out) ?_
      simp only [Act.put, zA, zB, zC]
      refine lint_pure 5 _ _ (.int .i64 (e : Int)) rfl rfl rfl rfl rfl (fun wx hx => by unfold mkOp; go_simp; all_goals (with_reducible rfl)) ?_
      simp only [Act.put, zA, zB, zC]
      refine lint_end ?_
      gi_wp2
      refine hR.mono ?_
      clear hR hy hS
      rintro e W3 (⟨rfl, hJ3⟩ | ⟨rfl, hJx3⟩)
      · obtain ⟨hd1, hd2, hm1, hm2⟩ := HC.out (k + 1) W3 hJ3
        have hw2 : IntKind.i64.wrap ((i : Int) + 56) = ((56 * (k + 1) : Nat) : Int) := by rw [IntWalk.i64_in _ (by have := HN.out; have := HLT.out; omega)]; have := HI.out; omega
        obtain ⟨i2, hi2⟩ : ∃ i2, i2 = 56 * (k + 1) := ⟨_, rfl⟩
        rw [← hi2] at hw2
        have HI2 := Lib.hid hi2
        clear hi2 hc1 hc2 hw1
        gi_wp2
        go_roundw
        case rel => exact ⟨k + 1, by rw [HI2.out], HKL.out, hJ3⟩
        case measure => have := HI.out; have := HI2.out; have := HLT.out; simp [intOf]; omega
      · gi_wp2
        refine bodyPost_ret (results_none rfl _ _ _) rfl ?_
        exact ⟨⟨_, rfl⟩, .inr hJx3⟩
    · have c1 : ¬ (i : Int) < (N : Int) := by omega
      obtain rfl : k = pcs N := by unfold pcs at *; omega
      gi_wp2
      go_end0
      exact ⟨⟨_, rfl⟩, .inl hJ⟩
set_option maxHeartbeats 4000000 in
set_option maxRecDepth 20000 in
theorem chunk1_none (n b1 b2 : Nat) (hn : 1 ≤ n) (enc : Nat → Value) : IterN Fence.wide n Try.prog 61 #[.pointer (some ⟨b1, 0, none⟩), .pointer (some ⟨b2, 0, none⟩)] enc 0 (fun W => W.cell? ⟨b1, 0, none⟩ = some (.slice none 0 0) ∧ W.cell? ⟨b2, 0, none⟩ = some (.int .i64 56) ∧ b1 < W.heap.size ∧ b2 < W.heap.size) := by
  intro l J Jx W hC hdr hY h0
  have HC := Lib.hid hC
  have hro : Fence.wide.round = none := rfl
  refine callsIn_of_wp Try.func61 rfl trivial ?_ rfl
  simp only [Try.ntmps61, List.size_toArray, List.length_cons, List.length_nil, Nat.reduceAdd, Nat.reduceSub, Array.replicate_succ, Array.replicate_zero, List.push_toArray, List.append_toArray, List.nil_append, List.cons_append]
  clear hC hdr hY
  gi_wp2
  gi_loopw [4] (fun iv wr => iv = .int .i64 0 ∧ J 0 wr) (fun iv _ => 0)
  case atStart => exact ⟨rfl, h0⟩
  case round =>
    clear h0
    obtain ⟨rfl, hJ⟩ := hrel
    obtain ⟨hc1, hc2, hl1, hl2⟩ := HC.out 0 wr hJ
    gi_wp2
    go_end0
    exact ⟨⟨_, rfl⟩, .inl hJ⟩
end Go.Proofs.Ytefabimolfcllaa
