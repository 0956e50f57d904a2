/- Texts joined: what they are for stands ahead of each. -/
import Derived.Test.YtpilfjdhpahphaaMM1
import Derived.ProofKit
import Derived.OpenShut
import Derived.ChangeOld
import Derived.Deep.Matrix
import Derived.Deep.Slices
import Derived.Maps.OwnSet
import Derived.Maps.RangeWalk
import Derived.Maps.AppendAt
set_option linter.unusedSimpArgs false
set_option linter.unusedVariables false

/- The document's device: Crash. -/
namespace Go.Proofs.Ytpilfjdhpahphaa
open Go.RowKit Go.Deep
set_option linter.unusedSimpArgs false
set_option linter.unusedVariables false

theorem devAt_fix (M : Nat → Prop) (m g wb : Nat) (S : DS) (k j : Nat) (w : World) (h : DevAt M m g wb w S) (hk : k < S.n) (hn : S.n ≤ 65536) (hj : j ≤ (S.pend k).length) (hp : (S.pend k).length ≤ 1000000000) :
    ∃ va, BsK M w va (atS S k j) ∧ ∀ w1, Below w.heap.size w w1 → Calls Try.prog 37 #[.pointer (some ⟨m, 0, none⟩), .int .i64 (k : Int), .int .i64 (j : Int)] w1 fun e w' => e = .returned va ∧ w' = w1 := by
  obtain ⟨gc, wc, gf, wf, r_m0, hr⟩ := h
  have hkI : 0 ≤ (k : Int) ∧ (k : Int) < (S.n : Int) := by omega
  by_cases hj0 : j = 0
  · subst hj0
    refine ⟨gf k, by unfold atS; rw [if_pos rfl]; exact hr.bg k hk, fun w1 hb => ?_⟩
    have r_m := zrb r_m0 hb
    have r_g := zrb hr.rg hb
    have HKL : Hid (k < gc) := Lib.hid (by have := hr.gl; omega)
    rw [show ((0 : Nat) : Int) = 0 from rfl]
    clear hr hk hn hj hp r_m0 hb
    go_enter Try.func37, Try.ntmps37
    go_wp2_with (first
      | (refine wpList_loadG 42 (.tmp 11) rfl rfl ((.slice (some ⟨g, 0, none⟩) S.n gc)) r_m rfl (by omega) rfl (by kernel_rfl) ?_)
      | (refine wpList_loadG 39 (.tmp 14) rfl rfl (gf k) r_g rfl HKL.out rfl (by kernel_rfl) ?_))
    go_ret
    exact ⟨rfl, rfl⟩
  · obtain ⟨f, h1, h2⟩ := hr.bw k hk
    obtain ⟨b, off, cap, hv, hc1, hc2, hbl, hcell⟩ := h1.vs.open (by omega)
    obtain ⟨J, hJ⟩ := nat_var (j - 1)
    obtain ⟨N, hN⟩ := nat_var (S.pend k).length
    have hwj : IntKind.i64.wrap ((j : Int) - 1) = (J : Int) := by rw [IntWalk.i64_in _ (by omega)]; omega
    have hjI : ¬ (j : Int) = 0 := by omega
    have hjJ : 0 ≤ (J : Int) ∧ (J : Int) < (N : Int) := by omega
    have hJl : J < (S.pend k).length := by omega
    refine ⟨f J, by
      unfold atS
      rw [if_neg hj0, ← hJ, List.getD_eq_getElem?_getD, List.getElem?_eq_getElem hJl]
      exact h2 J hJl, fun w1 hb => ?_⟩
    have r_m := zrb r_m0 hb
    have r_w := zrb hr.rw hb
    have HKL : Hid (k < wc) := Lib.hid (by have := hr.wl; omega)
    have hc : w1.cell? ⟨b, off + J, none⟩ = some (f J) := (hb.cell (p := ⟨b, off + J, none⟩) hbl).trans (hcell J (by omega))
    rw [← hN] at hv
    have HV := Lib.hid hv
    clear hr hk hn h1 h2 hcell hv hbl hJ hN hj hp r_m0 hb hj0 hJl
    go_enter Try.func37, Try.ntmps37
    go_wp2_with (first
      | (refine wpList_loadG 43 (.tmp 18) rfl rfl ((.slice (some ⟨wb, 0, none⟩) S.n wc)) r_m rfl (by omega) rfl (by kernel_rfl) ?_)
      | (refine wpList_loadG 42 (.tmp 21) rfl rfl (.slice (some ⟨b, off, none⟩) N cap) r_w rfl HKL.out HV.out (by kernel_rfl) ?_))
    go_ret
    exact ⟨rfl, rfl⟩
theorem BsK.of_row {M : Nat → Prop} {w : World} {b cap : Nat} {f : Nat → Value} {l : List UInt8} (h : w.rowIs b 5 cap f) (hl : l.length ≤ cap) (hm : cap ≤ maxLen) (hf : ∀ i (hi : i < l.length), f i = .int .u8 ((l[i]).toNat : Int)) (hM : ¬ M b) : BsK M w (.slice (some ⟨b, 0, none⟩) l.length cap) l := fun w' k =>
  ⟨_, cap, rfl, hl, hm, (fun h => by cases h), fun x hx i hi => by
    cases hx
    have r := Sam.row h k hM
    exact ⟨r.lt, by rw [Addr.add_lit, Nat.zero_add, r.cell (by omega), hf i hi]⟩⟩
/-- A place of the first rows was stored into, and what is new was turned. -/
theorem DevR.gset2 {M : Nat → Prop} {m g wb gc wc : Nat} {gf wf : Nat → Value} {w1 w2 : World} {n : Nat} {good : Nat → List UInt8} {pend : Nat → List (List UInt8)} (h : DevR M m g wb gc wc gf wf w1 n good pend) {B : Nat} (hB : w1.heap.size ≤ B) (hs : Sam (fun b => b = g ∨ B ≤ b) w1 w2) {k : Nat} {v : Value} {L : List UInt8} (hr : w2.rowIs g 39 gc (updF gf k v)) (hv : BsK M w2 v L) :
    DevR M m g wb gc wc (updF gf k v) wf w2 n (updF good k L) pend := by
  have k1 : Sam M w1 w2 := hs.mono fun b hb hf => by
    rcases hf with rfl | hf
    · exact h.Mg
    · omega
  refine ⟨h.gl, h.gm, h.wl, h.wm, hr, Sam.row h.rw hs (fun e => by have := h.rw.lt; rcases e with e | e; exact h.gw e.symm; omega), h.mg, h.mw, h.gw, h.Mm, h.Mg, h.Mw, fun i hi => ?_, fun i hi => (h.bw i hi).step k1⟩
  unfold updF
  by_cases e : i = k
  · rw [if_pos e, if_pos e]
    exact hv
  · rw [if_neg e, if_neg e]
    exact (h.bg i hi).step k1
theorem linf_copy {ops : Array Oper} {Q : Exit → Act → World → Prop} {E : World → World → Prop} {L : Nat} {a : Act} {w : World} {o : Oper} (d : Nat) (x y : Operand) (ho : ops[L]? = some o) (hd : o.dst = some d) (hop : o.op = .call { callee := .builtin .copy, args := #[x, y], argTypes := #[39, 39] }) (hw : Region.wanted o (yielded ops a.tmps) = true)
    {b m off dLen dCap : Nat} {t' : TypeId} {f : Nat → Value} (hr : w.rowIs b t' m f) {vb : Value} {l : List UInt8} (hB : Bs w vb l) (hx : a.eval x = .slice (some ⟨b, off, none⟩) dLen dCap) (hy : a.eval y = vb) (hfit : off + dLen ≤ m) (n : Nat) (hn : n = Nat.min l.length dLen)
    (h : ∀ v w', w'.rowIs b t' m (putN f off n (bytesAt l)) → w.grownBy w' (some b) → Q .normal (a.put (some d) v) w') : LinF Try.prog ops Q E L .done a w := by
  obtain ⟨w', hx', h1, h2, h3⟩ := exec_copy hr hB a.eval x y o.type hx hy hfit n hn
  show wpOp Try.prog ops Q L _ a w
  refine wpOp_step ho fun K' hK => ?_
  rw [if_pos hw]
  unfold Oper.wp
  rw [exec_mkOp, hop, hx']
  refine hK _ _ ?_
  rw [hd]
  exact h _ w' h1 h2
theorem quoF (a b c : Int) (hb : ¬ b = 0) (h : IntKind.i64.wrap (a.tdiv b) = c) (w : World) : (binOp .quo 3 (.int .i64 a) (.int .i64 b)).run Try.prog w = .ok (.int .i64 c) w := by go_simp
theorem remF (a b c : Int) (hb : ¬ b = 0) (h : a.tmod b = c) (w : World) : (binOp .rem 3 (.int .i64 a) (.int .i64 b)).run Try.prog w = .ok (.int .i64 c) w := by go_simp
theorem exec_binF {w : World} (ρ : Operand → Value) (op : BinOp) (t t' ty : TypeId) (x y : Operand) {u v r : Value} (hq : ∀ w, (eqGuard op t x y u v).run Try.prog w = .ok () w) (hr : ∀ w, (binOp op t u v).run Try.prog w = .ok r w) (hx : ρ x = u) (hy : ρ y = v) : (execOp ρ (mkOp (.binOp op t x y t') ty)).run Try.prog w = .ok (.value r) w := by
  simp [execOp, mkOp, hx, hy, hq, hr, Result.andThen]
theorem wpList_binF {ops : Array Oper} {rest : List Oper} {o : Oper} {a : Act} {w : World} {Q : Exit → Act → World → Prop} (op : BinOp) (t t' : TypeId) (x y : Operand) (ho : o.op = .binOp op t x y t') (hgd : o.guard = none) {u v r : Value} (hq : ∀ w, (eqGuard op t x y u v).run Try.prog w = .ok () w) (hr : ∀ w, (binOp op t u v).run Try.prog w = .ok r w) (hx : a.eval x = u) (hy : a.eval y = v)
    (h : wpList Try.prog ops Q rest (a.put o.dst r) w) : wpList Try.prog ops Q (o :: rest) a w :=
  wpList_value hgd r (by rw [exec_mkOp, ho]; exact exec_binF _ _ _ _ _ _ _ hq hr hx hy) h
theorem atS_len (S : DS) (k j : Nat) (hg : (S.good k).length = 64) (hw : ∀ l ∈ S.pend k, l.length = 64) (hj : j ≤ (S.pend k).length) : (atS S k j).length = 64 := by
  unfold atS
  by_cases h : j = 0
  · rw [if_pos h]; exact hg
  · rw [if_neg h, List.getD_eq_getElem?_getD, List.getElem?_eq_getElem (by omega)]
    exact hw _ (List.getElem_mem _)
/-- How many blocks ahead of k have pending writes; the pick that is k's; the block as a crash leaves it. -/
def cntS (pend : Nat → List (List UInt8)) : Nat → Nat
  | 0 => 0
  | k + 1 => cntS pend k + if (pend k).length = 0 then 0 else 1
theorem cntS_le (pend : Nat → List (List UInt8)) : ∀ k, cntS pend k ≤ k
  | 0 => Nat.le_refl _
  | k + 1 => by
    have := cntS_le pend k
    unfold cntS
    split <;> omega
def pickS (S : DS) (L : Nat) (pk : Nat → Int) (k : Nat) : Nat := if (S.pend k).length = 0 ∨ L = 0 then 0 else (pk (cntS S.pend k % L) % (2 * ((S.pend k).length : Int) + 1)).toNat
def crG (S : DS) (L : Nat) (pk : Nat → Int) (k : Nat) : List UInt8 := if pickS S L pk k % 2 = 1 then ((S.pend k).getD (pickS S L pk k / 2) []).take 32 ++ (atS S k (pickS S L pk k / 2)).drop 32 else atS S k (pickS S L pk k / 2)
def crI (S : DS) (L : Nat) (pk : Nat → Int) (i : Nat) : DS := ⟨S.n, fun k => if k < i then crG S L pk k else List.replicate 64 0, fun _ => [], 0, false, 0, false⟩
theorem crI_zero (S : DS) (L : Nat) (pk : Nat → Int) : crI S L pk 0 = newS S.n := by
  unfold crI newS
  simp
theorem crI_step (S : DS) (L : Nat) (pk : Nat → Int) (i : Nat) (l : List UInt8) (h : crG S L pk i = l) : updF (crI S L pk i).good i l = (crI S L pk (i + 1)).good := by
  subst h
  funext j
  show (if j = i then crG S L pk i else if j < i then crG S L pk j else List.replicate 64 0) = if j < i + 1 then crG S L pk j else List.replicate 64 0
  by_cases e : j = i
  · subst e
    rw [if_pos rfl, if_pos (by omega)]
  · rw [if_neg e]
    by_cases h : j < i
    · rw [if_pos h, if_pos (by omega)]
    · rw [if_neg h, if_neg (by omega)]
set_option maxHeartbeats 4000000 in
set_option maxRecDepth 20000 in
theorem devCrash_any (M : Nat → Prop) (m g wb : Nat) (S : DS) (L : Nat) (pk : Nat → Int) (vp : Value) (w : World) (h : DevAt M m g wb w S) (hM : ∀ b, M b → b < w.heap.size) (h0 : 1 ≤ S.n) (hn : S.n ≤ 65536) (hG : ∀ k, k < S.n → (S.good k).length = 64) (hW : ∀ k, k < S.n → ∀ l ∈ S.pend k, l.length = 64) (hp : ∀ k, (S.pend k).length ≤ 1000000)
    (hv : Vs w vp L fun i => .int .i64 (pk i)) (hL : L ≤ 1000000) (hpw : ∀ i, i < L → (Lit.int .i64 (pk i)).wf = true) : Calls Try.prog 15 #[.pointer (some ⟨m, 0, none⟩), vp] w fun e w' => ∃ m2 g2 wb2, e = .returned (.pointer (some ⟨m2, 0, none⟩)) ∧ w.heap.size ≤ m2 ∧ w.heap.size ≤ g2 ∧ w.heap.size ≤ wb2 ∧ DevAt (fun b => M b ∨ b = m2 ∨ b = g2 ∨ b = wb2) m2 g2 wb2 w' (crI S L pk S.n) ∧ Below w.heap.size w w' := by
  have HFIX := Lib.hid fun k j hk hj => devAt_fix M m g wb S k j w h hk hn hj (by have := hp k; omega)
  obtain ⟨gc, wc, gf, wf, r_m0, hr⟩ := h
  obtain ⟨a_p, c_p, hvp, hvl⟩ := hv
  subst hvp
  have HVL := Lib.hid hvl
  have HR0 := Lib.hid hr
  have HM := Lib.hid hM
  have H0 := Lib.hid h0
  have HN := Lib.hid hn
  have HG := Lib.hid hG
  have HW := Lib.hid hW
  have HP := Lib.hid hp
  have HL := Lib.hid hL
  have HPW := Lib.hid hpw
  have Bw0 := Below.refl w.heap.size w
  have HGS : Hid (∀ wq : World, Below w.heap.size w wq → w.heap.size ≤ wq.heap.size) := Lib.hid fun wq h => h.size
  have HRM := Lib.hid r_m0
  clear hr hM h0 hn hG hW hp hvl hL hpw
  go_enter Try.func15, Try.ntmps15
  go_wp2_with (first
    | (refine wpList_loadG 42 (.tmp 14) rfl rfl ((.slice (some ⟨g, 0, none⟩) S.n gc)) r_m0 rfl (by omega) rfl (by kernel_rfl) ?_)
    | (have hgo := Bw0; clear hgo
       go_at_call 11
       refine (devNew_yes M S.n _ HM.out H0.out HN.out).mono ?_
       rintro e w1 ⟨m2, g2, wb2, rfl, hm2, hg2, hw2, HD1, kk⟩
       have Bw1 := zbt HGS Bw0 kk
       have HLB := Lib.hid (And.intro hm2 (And.intro hg2 hw2))
       clear Bw0 kk hm2 hg2 hw2 r_m0))
  go_loopw [7, 8] (fun nv iv wr => ∃ i : Nat, i ≤ S.n ∧ nv = .int .i64 (cntS S.pend i : Int) ∧ iv = .int .i64 (i : Int) ∧ DevAt (fun b => M b ∨ b = m2 ∨ b = g2 ∨ b = wb2) m2 g2 wb2 wr (crI S L pk i) ∧ Below w.heap.size w wr) (fun _ iv _ => S.n - (intOf iv).toNat)
  case atStart => exact ⟨0, Nat.zero_le _, rfl, rfl, by rw [crI_zero]; exact HD1, Bw1⟩
  case round =>
    clear HD1 Bw1
    obtain ⟨i, hi, rfl, rfl, hd, Bw0⟩ := hrel
    have r_m := zrb HRM.out Bw0
    by_cases hlt : i < S.n
    · have HI := Lib.hid hlt
      have hiI : 0 ≤ (i : Int) ∧ (i : Int) < (S.n : Int) := by omega
      obtain ⟨i1, hi1⟩ := nat_var (i + 1)
      have hw1 : IntKind.i64.wrap ((i : Int) + 1) = (i1 : Int) := by
        have := HN.out
        rw [IntWalk.i64_in _ (by omega)]
        omega
      have HI1 := Lib.hid hi1
      obtain ⟨CN, hCN⟩ := nat_var (cntS S.pend i)
      have hcl := cntS_le S.pend i
      rw [← hCN] at hcl ⊢
      have HCN := Lib.hid hCN
      obtain ⟨c1, hc1⟩ := nat_var (CN + 1)
      have hw2 : IntKind.i64.wrap ((CN : Int) + 1) = (c1 : Int) := by
        have := HN.out
        rw [IntWalk.i64_in _ (by omega)]
        omega
      have HC1 := Lib.hid hc1
      have r_g := zrb HR0.out.rg Bw0
      have r_w := zrb HR0.out.rw Bw0
      have HWL : Hid (i < wc) := Lib.hid (by have := HR0.out.wl; omega)
      have HBW : Hid (w.heap.size ≤ wr.heap.size) := Lib.hid (HGS.out _ Bw0)
      obtain ⟨gc2, wc2, gf2, wf2, r_x, hr2⟩ := hd
      have r_x2 : wr.rowIs m2 45 6 (devF (.slice (some ⟨g2, 0, none⟩) S.n gc2) (.slice (some ⟨wb2, 0, none⟩) S.n wc2) (0 : Int) false 0 false) := r_x
      have HR2 := Lib.hid hr2
      have r_g2 := hr2.rg
      have HGL : Hid (i < gc2) := Lib.hid (by have := hr2.gl; have h2 : S.n ≤ gc2 := this; omega)
      have HNB : Hid (∀ b, (fun b => M b ∨ b = m2 ∨ b = g2 ∨ b = wb2) b → b < wr.heap.size) := Lib.hid fun b hb => by
        rcases hb with hb | rfl | rfl | rfl
        · have := HM.out b hb; have := HBW.out; omega
        · exact r_x.lt
        · exact hr2.rg.lt
        · exact hr2.rw.lt
      obtain ⟨f, h1, h2⟩ := HR0.out.bw i hlt
      obtain ⟨N, hNN⟩ := nat_var (S.pend i).length
      obtain ⟨a0, cap, hv, _⟩ := h1.vs
      rw [← hNN] at hv
      have HV := Lib.hid hv
      have HNL := Lib.hid hNN
      have HNM : Hid (N ≤ 1000000) := Lib.hid (by rw [hNN]; exact HP.out i)
      have H1 := Lib.hid h1
      have H2 := Lib.hid h2
      clear hi hlt hi1 hCN hcl hc1 hr2 r_x h1 h2 hv hNN
      by_cases n0 : N = 0
      · have q1 : ¬ (0 : Int) < (N : Int) := by omega
        have hpk : pickS S L pk i = 0 := if_pos (.inl (by have := HNL.out; omega))
        have HCS : Hid (Value.int .i64 (CN : Int) = .int .i64 (cntS S.pend (i + 1) : Int)) := Lib.hid (by rw [show cntS S.pend (i + 1) = cntS S.pend i + (if (S.pend i).length = 0 then 0 else 1) from rfl, if_pos (by have := HNL.out; omega), Nat.add_zero, HCN.out])
        have HHL : Hid (0 ≤ (S.pend i).length) := Lib.hid (Nat.zero_le _)
        have HQ : Hid (IntKind.i64.wrap ((0 : Int).tdiv 2) = 0) := Lib.hid (by decide)
        have RM : Hid ((0 : Int).tmod 2 = 0) := Lib.hid (by decide)
        obtain ⟨va, hva, hca⟩ := HFIX.out i 0 HI.out HHL.out
        rw [show ((0 : Nat) : Int) = 0 from rfl] at hca
        obtain ⟨AT, hAT⟩ : ∃ A, A = atS S i 0 := ⟨_, rfl⟩
        rw [← hAT] at hva
        have HVA := Lib.hid hva
        have HCA := Lib.hid hca
        have HAT64 : Hid (AT.length = 64) := Lib.hid (by rw [hAT]; exact atS_len S i 0 (HG.out i HI.out) (HW.out i HI.out) HHL.out)
        have HATL : Hid (AT.length ≤ 64) := Lib.hid (by rw [HAT64.out]; exact Nat.le_refl _)
        have HAT0 := Lib.hid hAT
        have HPK : Hid (crG S L pk i = AT) := Lib.hid (by unfold crG; rw [hpk, if_neg (by decide)]; exact hAT.symm)
        clear hva hca hAT hpk n0
        go_wp2_with (first
          | (refine wpList_loadG 42 (.tmp 23) rfl rfl ((.slice (some ⟨g, 0, none⟩) S.n gc)) r_m rfl (by omega) rfl (by kernel_rfl) ?_)
          | (refine wpList_loadG 43 (.tmp 31) rfl rfl ((.slice (some ⟨wb, 0, none⟩) S.n wc)) r_m rfl (by omega) rfl (by kernel_rfl) ?_)
          | (refine wpList_loadG 42 (.tmp 34) rfl rfl (.slice a0 N cap) r_w rfl HWL.out HV.out (by kernel_rfl) ?_))
        have HE : Below wr.heap.size wr wr.drew := (Below.refl _ _).drew
        have HB : wr.heap.size ≤ wr.drew.heap.size := Nat.le_refl _
        refine wp_region_linf (Below wr.heap.size) (fun w => Below.refl _ w) (fun _ _ _ h k => h.trans k) 13 25 (.rd 0 (.rd 1 (.rd 2 (.rd 3 (.rd 4 (.rd 6 (.rd 7 (.rd 8 (.rd 9 (.br 5 (.wr 10 (.wr 11 (.rd 12 .done))) 10 (.wr 5 (.wr 11 (.rd 12 .done))))))))))))) (by kernel_rfl) (by kernel_rfl) (by decide) (by kernel_rfl) (fun d _ _ _ _ h => by cases d <;> exact h) ?_
        refine linf_pure 66 _ _ (.pointer (some ⟨m2, 0, none⟩)) rfl rfl rfl rfl rfl (fun wx hx => by unfold mkOp; go_simp; all_goals (with_reducible rfl)) ?_
        simp only [Act.put, zA, zB, zC]
        refine linf_pure 67 _ _ (.pointer (some ⟨m2, 0, none⟩)) rfl rfl rfl rfl rfl (fun wx hx => by unfold mkOp; go_simp; all_goals (with_reducible rfl)) ?_
        simp only [Act.put, zA, zB, zC]
        refine linf_pure 68 _ _ (.pointer (some ⟨m2, 0, none⟩)) rfl rfl rfl rfl rfl (fun wx hx => by unfold mkOp; go_simp; all_goals (with_reducible rfl)) ?_
        simp only [Act.put, zA, zB, zC]
        refine linf_pure 69 _ _ ((.slice (some ⟨g2, 0, none⟩) S.n gc2)) rfl rfl rfl rfl rfl (fun wx hx => by exact exec_load_cell _ _ _ _ rfl (by kernel_rfl) ((zrb r_x2 (HE.trans hx)).cell (by omega))) ?_
        simp only [Act.put, zA, zB, zC]
        refine linf_pure 70 _ _ (.int .i64 (i : Int)) rfl rfl rfl rfl rfl (fun wx hx => by unfold mkOp; go_simp; all_goals (with_reducible rfl)) ?_
        simp only [Act.put, zA, zB, zC]
        refine linf_pure 72 _ _ (.pointer (some ⟨m, 0, none⟩)) rfl rfl rfl rfl rfl (fun wx hx => by unfold mkOp; go_simp; all_goals (with_reducible rfl)) ?_
        simp only [Act.put, zA, zB, zC]
        refine linf_pure 73 _ _ (.int .i64 (i : Int)) rfl rfl rfl rfl rfl (fun wx hx => by unfold mkOp; go_simp; all_goals (with_reducible rfl)) ?_
        simp only [Act.put, zA, zB, zC]
        refine linf_pure 74 _ _ (.int .i64 (0 : Int)) rfl rfl rfl rfl rfl (fun wx hx => by unfold mkOp; go_simp; all_goals (with_reducible rfl)) ?_
        simp only [Act.put, zA, zB, zC]
        refine linf_pure 75 _ _ (.int .i64 (0 : Int)) rfl rfl rfl rfl rfl (fun wx hx => by exact exec_binF _ .quo 3 3 3 _ _ (fun _ => rfl) (quoF _ _ _ (by omega) HQ.out) rfl rfl) ?_
        simp only [Act.put, zA, zB, zC]
        refine ⟨?_, ?_⟩
        · skip
          refine lf_laid 71 (.buildSlice 39 0 #[]) _ 5 #[] 0 rfl rfl rfl rfl rfl (exec_bytV0 _ _ _) rfl (by unfold maxLen; omega) HB ?_
          intro v_71 wf1 o_71 hnw kk HB2
          replace HE := HE.trans (kk.mono HB)
          clear HB hnw kk
          have HB := HB2
          clear HB2
          simp only [Act.put, zA, zB, zC]
          refine linf_fn 76 37 _ _ _ (HCA.out _ (Bw0.trans (HE.mono HBW.out))) rfl rfl rfl rfl Try.func37 (by kernel_rfl) (by kernel_rfl) (by go_simp) ?_
          rintro e wf2 ⟨rfl, rfl⟩
          refine ⟨_, rfl, Below.refl _ _, ?_⟩
          simp only [Act.put, zA, zB, zC]
          refine lf_app 77 (.tmp 71) (.tmp 76) 39 5 v_71 va (.int .u8 0) 1 _ _ _ rfl rfl rfl rfl Try.underlying39 (by kernel_rfl) rfl (by decide) o_71 ((HVA.out _ (Sam.of_below (Bw0.trans (HE.mono HBW.out)))).vs) (fun i hi => rfl) rfl rfl (by have := HATL.out; simp; omega) HB ?_
          intro v_77 wf3 o_77 gk hsm kk HB2
          replace HE := HE.trans kk
          clear HB gk hsm kk o_71 
          have HB := HB2
          clear HB2
          replace o_77 := OwnV.u8 (l := AT) o_77
          simp only [Act.put, zA, zB, zC]
          refine linf_pure 78 _ _ (.pointer (some ⟨g2, i, none⟩)) rfl rfl rfl rfl rfl (fun wx hx => by unfold mkOp; go_simp; all_goals (with_reducible rfl)) ?_
          simp only [Act.put, zA, zB, zC]
          have hs77 := slc_cell o_77.slc
          refine linf_storeW (.store 39 (.tmp 78) (.tmp 77)) _ _ rfl rfl rfl rfl rfl (exec_store_cell _ _ _ _ _ (zrb r_g2 HE) rfl rfl (by kernel_rfl) hs77.1 hs77.2 HGL.out) ?_
          intro w5 hw5
          have k5 : Sam (· = g2) _ w5 := Sam.setW hw5 rfl
          have r_x5 := Sam.row (zrb r_x2 HE) k5 HR2.out.mg
          have hr5 := HR2.out.gsetW HE HI.out (BsK.own o_77.owns HNB.out) hw5
          rw [crI_step S L pk i AT HPK.out] at hr5
          have HR5 := Lib.hid hr5
          have Bw5 : Below w.heap.size w w5 := (Bw0.trans (HE.mono HBW.out)).trans (k5.below (fun b hb => by rw [hb]; exact HLB.out.2.1) (Bw0.trans (HE.mono HBW.out)).size)
          clear hr5 k5 hw5 HE HB o_77 hs77 r_m r_g r_w r_x2 r_g2 HCA
          go_wp2_with (first
            | (have hgo := RM; clear hgo
               refine wpList_binF .rem 3 3 (.tmp 79) _ rfl rfl (fun _ => rfl) (remF _ _ _ (by omega) RM.out) rfl rfl ?_
               clear RM))
          go_roundw
          case rel => exact ⟨i + 1, HI.out, HCS.out, by rw [HI1.out], ⟨gc2, wc2, _, _, r_x5, HR5.out⟩, Bw5⟩
          case measure => (have := HI.out; have := HI1.out; simp [intOf]; try omega)
        · skip
          refine linf_fn 76 37 _ _ _ (HCA.out _ (Bw0.trans (HE.mono HBW.out))) rfl rfl rfl rfl Try.func37 (by kernel_rfl) (by kernel_rfl) (by go_simp) ?_
          rintro e wf1 ⟨rfl, rfl⟩
          refine ⟨_, rfl, Below.refl _ _, ?_⟩
          simp only [Act.put, zA, zB, zC]
          refine lf_laid 71 (.buildSlice 39 0 #[]) _ 5 #[] 0 rfl rfl rfl rfl rfl (exec_bytV0 _ _ _) rfl (by unfold maxLen; omega) HB ?_
          intro v_71 wf2 o_71 hnw kk HB2
          replace HE := HE.trans (kk.mono HB)
          clear HB hnw kk
          have HB := HB2
          clear HB2
          simp only [Act.put, zA, zB, zC]
          refine lf_app 77 (.tmp 71) (.tmp 76) 39 5 v_71 va (.int .u8 0) 1 _ _ _ rfl rfl rfl rfl Try.underlying39 (by kernel_rfl) rfl (by decide) o_71 ((HVA.out _ (Sam.of_below (Bw0.trans (HE.mono HBW.out)))).vs) (fun i hi => rfl) rfl rfl (by have := HATL.out; simp; omega) HB ?_
          intro v_77 wf3 o_77 gk hsm kk HB2
          replace HE := HE.trans kk
          clear HB gk hsm kk o_71 
          have HB := HB2
          clear HB2
          replace o_77 := OwnV.u8 (l := AT) o_77
          simp only [Act.put, zA, zB, zC]
          refine linf_pure 78 _ _ (.pointer (some ⟨g2, i, none⟩)) rfl rfl rfl rfl rfl (fun wx hx => by unfold mkOp; go_simp; all_goals (with_reducible rfl)) ?_
          simp only [Act.put, zA, zB, zC]
          have hs77 := slc_cell o_77.slc
          refine linf_storeW (.store 39 (.tmp 78) (.tmp 77)) _ _ rfl rfl rfl rfl rfl (exec_store_cell _ _ _ _ _ (zrb r_g2 HE) rfl rfl (by kernel_rfl) hs77.1 hs77.2 HGL.out) ?_
          intro w5 hw5
          have k5 : Sam (· = g2) _ w5 := Sam.setW hw5 rfl
          have r_x5 := Sam.row (zrb r_x2 HE) k5 HR2.out.mg
          have hr5 := HR2.out.gsetW HE HI.out (BsK.own o_77.owns HNB.out) hw5
          rw [crI_step S L pk i AT HPK.out] at hr5
          have HR5 := Lib.hid hr5
          have Bw5 : Below w.heap.size w w5 := (Bw0.trans (HE.mono HBW.out)).trans (k5.below (fun b hb => by rw [hb]; exact HLB.out.2.1) (Bw0.trans (HE.mono HBW.out)).size)
          clear hr5 k5 hw5 HE HB o_77 hs77 r_m r_g r_w r_x2 r_g2 HCA
          go_wp2_with (first
            | (have hgo := RM; clear hgo
               refine wpList_binF .rem 3 3 (.tmp 79) _ rfl rfl (fun _ => rfl) (remF _ _ _ (by omega) RM.out) rfl rfl ?_
               clear RM))
          go_roundw
          case rel => exact ⟨i + 1, HI.out, HCS.out, by rw [HI1.out], ⟨gc2, wc2, _, _, r_x5, HR5.out⟩, Bw5⟩
          case measure => (have := HI.out; have := HI1.out; simp [intOf]; try omega)
      · have q1 : (0 : Int) < (N : Int) := by omega
        have HCS : Hid (Value.int .i64 (c1 : Int) = .int .i64 (cntS S.pend (i + 1) : Int)) := Lib.hid (by rw [show cntS S.pend (i + 1) = cntS S.pend i + (if (S.pend i).length = 0 then 0 else 1) from rfl, if_neg (by have := HNL.out; omega), HC1.out, HCN.out])
        by_cases l0 : L = 0
        · have q2 : ¬ (0 : Int) < (L : Int) := by omega
          have hpk : pickS S L pk i = 0 := if_pos (.inr l0)
          have HHL : Hid (0 ≤ (S.pend i).length) := Lib.hid (Nat.zero_le _)
          have HQ : Hid (IntKind.i64.wrap ((0 : Int).tdiv 2) = 0) := Lib.hid (by decide)
          have RM : Hid ((0 : Int).tmod 2 = 0) := Lib.hid (by decide)
          obtain ⟨va, hva, hca⟩ := HFIX.out i 0 HI.out HHL.out
          rw [show ((0 : Nat) : Int) = 0 from rfl] at hca
          obtain ⟨AT, hAT⟩ : ∃ A, A = atS S i 0 := ⟨_, rfl⟩
          rw [← hAT] at hva
          have HVA := Lib.hid hva
          have HCA := Lib.hid hca
          have HAT64 : Hid (AT.length = 64) := Lib.hid (by rw [hAT]; exact atS_len S i 0 (HG.out i HI.out) (HW.out i HI.out) HHL.out)
          have HATL : Hid (AT.length ≤ 64) := Lib.hid (by rw [HAT64.out]; exact Nat.le_refl _)
          have HAT0 := Lib.hid hAT
          have HPK : Hid (crG S L pk i = AT) := Lib.hid (by unfold crG; rw [hpk, if_neg (by decide)]; exact hAT.symm)
          clear hva hca hAT hpk n0 l0
          go_wp2_with (first
            | (refine wpList_loadG 42 (.tmp 23) rfl rfl ((.slice (some ⟨g, 0, none⟩) S.n gc)) r_m rfl (by omega) rfl (by kernel_rfl) ?_)
            | (refine wpList_loadG 43 (.tmp 31) rfl rfl ((.slice (some ⟨wb, 0, none⟩) S.n wc)) r_m rfl (by omega) rfl (by kernel_rfl) ?_)
            | (refine wpList_loadG 42 (.tmp 34) rfl rfl (.slice a0 N cap) r_w rfl HWL.out HV.out (by kernel_rfl) ?_))
          have HE : Below wr.heap.size wr wr.drew := (Below.refl _ _).drew
          have HB : wr.heap.size ≤ wr.drew.heap.size := Nat.le_refl _
          refine wp_region_linf (Below wr.heap.size) (fun w => Below.refl _ w) (fun _ _ _ h k => h.trans k) 13 25 (.rd 0 (.rd 1 (.rd 2 (.rd 3 (.rd 4 (.rd 6 (.rd 7 (.rd 8 (.rd 9 (.br 5 (.wr 10 (.wr 11 (.rd 12 .done))) 10 (.wr 5 (.wr 11 (.rd 12 .done))))))))))))) (by kernel_rfl) (by kernel_rfl) (by decide) (by kernel_rfl) (fun d _ _ _ _ h => by cases d <;> exact h) ?_
          refine linf_pure 66 _ _ (.pointer (some ⟨m2, 0, none⟩)) rfl rfl rfl rfl rfl (fun wx hx => by unfold mkOp; go_simp; all_goals (with_reducible rfl)) ?_
          simp only [Act.put, zA, zB, zC]
          refine linf_pure 67 _ _ (.pointer (some ⟨m2, 0, none⟩)) rfl rfl rfl rfl rfl (fun wx hx => by unfold mkOp; go_simp; all_goals (with_reducible rfl)) ?_
          simp only [Act.put, zA, zB, zC]
          refine linf_pure 68 _ _ (.pointer (some ⟨m2, 0, none⟩)) rfl rfl rfl rfl rfl (fun wx hx => by unfold mkOp; go_simp; all_goals (with_reducible rfl)) ?_
          simp only [Act.put, zA, zB, zC]
          refine linf_pure 69 _ _ ((.slice (some ⟨g2, 0, none⟩) S.n gc2)) rfl rfl rfl rfl rfl (fun wx hx => by exact exec_load_cell _ _ _ _ rfl (by kernel_rfl) ((zrb r_x2 (HE.trans hx)).cell (by omega))) ?_
          simp only [Act.put, zA, zB, zC]
          refine linf_pure 70 _ _ (.int .i64 (i : Int)) rfl rfl rfl rfl rfl (fun wx hx => by unfold mkOp; go_simp; all_goals (with_reducible rfl)) ?_
          simp only [Act.put, zA, zB, zC]
          refine linf_pure 72 _ _ (.pointer (some ⟨m, 0, none⟩)) rfl rfl rfl rfl rfl (fun wx hx => by unfold mkOp; go_simp; all_goals (with_reducible rfl)) ?_
          simp only [Act.put, zA, zB, zC]
          refine linf_pure 73 _ _ (.int .i64 (i : Int)) rfl rfl rfl rfl rfl (fun wx hx => by unfold mkOp; go_simp; all_goals (with_reducible rfl)) ?_
          simp only [Act.put, zA, zB, zC]
          refine linf_pure 74 _ _ (.int .i64 (0 : Int)) rfl rfl rfl rfl rfl (fun wx hx => by unfold mkOp; go_simp; all_goals (with_reducible rfl)) ?_
          simp only [Act.put, zA, zB, zC]
          refine linf_pure 75 _ _ (.int .i64 (0 : Int)) rfl rfl rfl rfl rfl (fun wx hx => by exact exec_binF _ .quo 3 3 3 _ _ (fun _ => rfl) (quoF _ _ _ (by omega) HQ.out) rfl rfl) ?_
          simp only [Act.put, zA, zB, zC]
          refine ⟨?_, ?_⟩
          · skip
            refine lf_laid 71 (.buildSlice 39 0 #[]) _ 5 #[] 0 rfl rfl rfl rfl rfl (exec_bytV0 _ _ _) rfl (by unfold maxLen; omega) HB ?_
            intro v_71 wf1 o_71 hnw kk HB2
            replace HE := HE.trans (kk.mono HB)
            clear HB hnw kk
            have HB := HB2
            clear HB2
            simp only [Act.put, zA, zB, zC]
            refine linf_fn 76 37 _ _ _ (HCA.out _ (Bw0.trans (HE.mono HBW.out))) rfl rfl rfl rfl Try.func37 (by kernel_rfl) (by kernel_rfl) (by go_simp) ?_
            rintro e wf2 ⟨rfl, rfl⟩
            refine ⟨_, rfl, Below.refl _ _, ?_⟩
            simp only [Act.put, zA, zB, zC]
            refine lf_app 77 (.tmp 71) (.tmp 76) 39 5 v_71 va (.int .u8 0) 1 _ _ _ rfl rfl rfl rfl Try.underlying39 (by kernel_rfl) rfl (by decide) o_71 ((HVA.out _ (Sam.of_below (Bw0.trans (HE.mono HBW.out)))).vs) (fun i hi => rfl) rfl rfl (by have := HATL.out; simp; omega) HB ?_
            intro v_77 wf3 o_77 gk hsm kk HB2
            replace HE := HE.trans kk
            clear HB gk hsm kk o_71 
            have HB := HB2
            clear HB2
            replace o_77 := OwnV.u8 (l := AT) o_77
            simp only [Act.put, zA, zB, zC]
            refine linf_pure 78 _ _ (.pointer (some ⟨g2, i, none⟩)) rfl rfl rfl rfl rfl (fun wx hx => by unfold mkOp; go_simp; all_goals (with_reducible rfl)) ?_
            simp only [Act.put, zA, zB, zC]
            have hs77 := slc_cell o_77.slc
            refine linf_storeW (.store 39 (.tmp 78) (.tmp 77)) _ _ rfl rfl rfl rfl rfl (exec_store_cell _ _ _ _ _ (zrb r_g2 HE) rfl rfl (by kernel_rfl) hs77.1 hs77.2 HGL.out) ?_
            intro w5 hw5
            have k5 : Sam (· = g2) _ w5 := Sam.setW hw5 rfl
            have r_x5 := Sam.row (zrb r_x2 HE) k5 HR2.out.mg
            have hr5 := HR2.out.gsetW HE HI.out (BsK.own o_77.owns HNB.out) hw5
            rw [crI_step S L pk i AT HPK.out] at hr5
            have HR5 := Lib.hid hr5
            have Bw5 : Below w.heap.size w w5 := (Bw0.trans (HE.mono HBW.out)).trans (k5.below (fun b hb => by rw [hb]; exact HLB.out.2.1) (Bw0.trans (HE.mono HBW.out)).size)
            clear hr5 k5 hw5 HE HB o_77 hs77 r_m r_g r_w r_x2 r_g2 HCA
            go_wp2_with (first
              | (have hgo := RM; clear hgo
                 refine wpList_binF .rem 3 3 (.tmp 79) _ rfl rfl (fun _ => rfl) (remF _ _ _ (by omega) RM.out) rfl rfl ?_
                 clear RM))
            go_roundw
            case rel => exact ⟨i + 1, HI.out, HCS.out, by rw [HI1.out], ⟨gc2, wc2, _, _, r_x5, HR5.out⟩, Bw5⟩
            case measure => (have := HI.out; have := HI1.out; simp [intOf]; try omega)
          · skip
            refine linf_fn 76 37 _ _ _ (HCA.out _ (Bw0.trans (HE.mono HBW.out))) rfl rfl rfl rfl Try.func37 (by kernel_rfl) (by kernel_rfl) (by go_simp) ?_
            rintro e wf1 ⟨rfl, rfl⟩
            refine ⟨_, rfl, Below.refl _ _, ?_⟩
            simp only [Act.put, zA, zB, zC]
            refine lf_laid 71 (.buildSlice 39 0 #[]) _ 5 #[] 0 rfl rfl rfl rfl rfl (exec_bytV0 _ _ _) rfl (by unfold maxLen; omega) HB ?_
            intro v_71 wf2 o_71 hnw kk HB2
            replace HE := HE.trans (kk.mono HB)
            clear HB hnw kk
            have HB := HB2
            clear HB2
            simp only [Act.put, zA, zB, zC]
            refine lf_app 77 (.tmp 71) (.tmp 76) 39 5 v_71 va (.int .u8 0) 1 _ _ _ rfl rfl rfl rfl Try.underlying39 (by kernel_rfl) rfl (by decide) o_71 ((HVA.out _ (Sam.of_below (Bw0.trans (HE.mono HBW.out)))).vs) (fun i hi => rfl) rfl rfl (by have := HATL.out; simp; omega) HB ?_
            intro v_77 wf3 o_77 gk hsm kk HB2
            replace HE := HE.trans kk
            clear HB gk hsm kk o_71 
            have HB := HB2
            clear HB2
            replace o_77 := OwnV.u8 (l := AT) o_77
            simp only [Act.put, zA, zB, zC]
            refine linf_pure 78 _ _ (.pointer (some ⟨g2, i, none⟩)) rfl rfl rfl rfl rfl (fun wx hx => by unfold mkOp; go_simp; all_goals (with_reducible rfl)) ?_
            simp only [Act.put, zA, zB, zC]
            have hs77 := slc_cell o_77.slc
            refine linf_storeW (.store 39 (.tmp 78) (.tmp 77)) _ _ rfl rfl rfl rfl rfl (exec_store_cell _ _ _ _ _ (zrb r_g2 HE) rfl rfl (by kernel_rfl) hs77.1 hs77.2 HGL.out) ?_
            intro w5 hw5
            have k5 : Sam (· = g2) _ w5 := Sam.setW hw5 rfl
            have r_x5 := Sam.row (zrb r_x2 HE) k5 HR2.out.mg
            have hr5 := HR2.out.gsetW HE HI.out (BsK.own o_77.owns HNB.out) hw5
            rw [crI_step S L pk i AT HPK.out] at hr5
            have HR5 := Lib.hid hr5
            have Bw5 : Below w.heap.size w w5 := (Bw0.trans (HE.mono HBW.out)).trans (k5.below (fun b hb => by rw [hb]; exact HLB.out.2.1) (Bw0.trans (HE.mono HBW.out)).size)
            clear hr5 k5 hw5 HE HB o_77 hs77 r_m r_g r_w r_x2 r_g2 HCA
            go_wp2_with (first
              | (have hgo := RM; clear hgo
                 refine wpList_binF .rem 3 3 (.tmp 79) _ rfl rfl (fun _ => rfl) (remF _ _ _ (by omega) RM.out) rfl rfl ?_
                 clear RM))
            go_roundw
            case rel => exact ⟨i + 1, HI.out, HCS.out, by rw [HI1.out], ⟨gc2, wc2, _, _, r_x5, HR5.out⟩, Bw5⟩
            case measure => (have := HI.out; have := HI1.out; simp [intOf]; try omega)
        · have q2 : (0 : Int) < (L : Int) := by omega
          obtain ⟨CI, hCI⟩ := nat_var (CN % L)
          have hCL : CI < L := by rw [hCI]; exact Nat.mod_lt _ (by omega)
          have R48 : Hid ((CN : Int).tmod (L : Int) = (CI : Int)) := Lib.hid (by rw [Int.tmod_eq_emod_of_nonneg (by omega)]; omega)
          have hciI : 0 ≤ (CI : Int) ∧ (CI : Int) < (L : Int) := by omega
          obtain ⟨bp, op, cp, hpv, _, _, hpb, hpc⟩ := (show Vs w (.slice a_p L c_p) L (fun i => .int .i64 (pk i)) from ⟨a_p, c_p, rfl, HVL.out⟩).open (by omega)
          injection hpv with hpa _ hcc
          subst hpa
          subst hcc
          obtain ⟨P, hP⟩ : ∃ P, P = pk CI := ⟨_, rfl⟩
          have hcp : wr.cell? ⟨bp, op + CI, none⟩ = some (.int .i64 P) := by rw [hP]; exact (Bw0.cell (p := ⟨bp, op + CI, none⟩) hpb).trans (hpc CI hCL)
          have hPB := bd_i64 (HPW.out CI hCL)
          rw [← hP] at hPB
          obtain ⟨D0, hD0⟩ := nat_var (2 * N)
          obtain ⟨D, hD⟩ := nat_var (D0 + 1)
          have hNM := HNM.out
          have hwD : IntKind.i64.wrap (2 * (N : Int)) = (D0 : Int) := by rw [IntWalk.i64_in _ (by omega)]; omega
          have hwE : IntKind.i64.wrap ((D0 : Int) + 1) = (D : Int) := by rw [IntWalk.i64_in _ (by omega)]; omega
          have hdn : 0 < (D : Int) := by omega
          obtain ⟨R, hR⟩ : ∃ R, R = P.tmod (D : Int) := ⟨_, rfl⟩
          have hpk0 : pickS S L pk i = (P % (D : Int)).toNat := by
            unfold pickS
            rw [if_neg (by have := HNL.out; omega), ← HCN.out, ← hCI, ← hP, ← HNL.out, show 2 * (N : Int) + 1 = (D : Int) by omega]
          have hlo := Int.lt_tmod_of_pos P (b := (D : Int)) (by omega)
          have hhi := Int.tmod_lt_of_pos P (b := (D : Int)) (by omega)
          rw [← hR] at hlo hhi
          by_cases hneg : R < 0
          · obtain ⟨p, hp⟩ := nat_var (R + (D : Int)).toNat
            obtain ⟨R1, hR1⟩ : ∃ R1, R1 = R + (D0 : Int) := ⟨_, rfl⟩
            have hw6 : IntKind.i64.wrap (R + (D0 : Int)) = R1 := by rw [IntWalk.i64_in _ (by omega)]; omega
            have hw7 : IntKind.i64.wrap (R1 + 1) = (p : Int) := by rw [IntWalk.i64_in _ (by omega)]; omega
            have R54 : Hid (P.tmod (D : Int) = R) := Lib.hid hR.symm
            have hpk : pickS S L pk i = p := by rw [hpk0, hp, ← tmod_down P (D : Int) (by rw [← hR]; exact hneg) (by omega), ← hR]
            have hpI : (p : Int) = R + (D : Int) := by omega
            have qR : R < 0 := hneg
            obtain ⟨h, hhp⟩ := nat_var (p / 2)
            have hp2 : p ≤ 2 * N := by omega
            have HHL : Hid (h ≤ (S.pend i).length) := Lib.hid (by have := HNL.out; omega)
            by_cases ho : p % 2 = 1
            · skip
              have HQ : Hid (IntKind.i64.wrap ((p : Int).tdiv 2) = (h : Int)) := Lib.hid (by rw [Int.tdiv_eq_ediv_of_nonneg (by omega), IntWalk.i64_in _ (by omega)]; omega)
              have hrm : (p : Int).tmod 2 = 1 := by rw [Int.tmod_eq_emod_of_nonneg (by omega)]; omega
              have RM := Lib.hid hrm
              clear hrm
              obtain ⟨va, hva, hca⟩ := HFIX.out i h HI.out HHL.out
              obtain ⟨AT, hAT⟩ : ∃ A, A = atS S i h := ⟨_, rfl⟩
              rw [← hAT] at hva
              have HVA := Lib.hid hva
              have HCA := Lib.hid hca
              have HAT64 : Hid (AT.length = 64) := Lib.hid (by rw [hAT]; exact atS_len S i h (HG.out i HI.out) (HW.out i HI.out) HHL.out)
              have HATL : Hid (AT.length ≤ 64) := Lib.hid (by rw [HAT64.out]; exact Nat.le_refl _)
              have HAT0 := Lib.hid hAT
              have hJl : h < (S.pend i).length := by have := HNL.out; omega
              obtain ⟨LW, hLW⟩ : ∃ A, A = (S.pend i)[h] := ⟨_, rfl⟩
              have HLW : Hid (LW.length = 64) := Lib.hid (by rw [hLW]; exact HW.out i HI.out _ (List.getElem_mem _))
              have HFH : Hid (BsK M w (f h) LW) := Lib.hid (by rw [hLW]; exact H2.out h hJl)
              obtain ⟨bo, of, co, hvo, _, _, hbl, hcell⟩ := H1.out.vs.open (by omega)
              have hV3 := HV.out
              rw [hvo] at hV3
              injection hV3 with e1 e2 e3
              have HV2 : Hid (wf i = .slice (some ⟨bo, of, none⟩) N cap) := Lib.hid (by rw [HV.out, ← e1])
              have HBO : Hid (bo < w.heap.size ∧ w.cell? ⟨bo, of + h, none⟩ = some (f h)) := Lib.hid ⟨hbl, hcell h hJl⟩
              have HPK : Hid (crG S L pk i = LW.take 32 ++ AT.drop 32) := Lib.hid (by
                unfold crG
                rw [hpk, if_pos (by omega), ← hhp, ← hAT, List.getD_eq_getElem?_getD, List.getElem?_eq_getElem hJl, hLW]
                rfl)
              clear e1 e2 e3 hvo hbl hcell hLW hJl
              have hhI : 0 ≤ (h : Int) ∧ (h : Int) < (N : Int) := by omega
              clear hva hca hAT hpk n0 l0 hCI hCL hpb hpc hP hPB hD0 hD hNM hR hpk0 hlo hhi hneg hp hpI ho hhp hp2 hR1
              go_wp2_with (first
                | (refine wpList_loadG 42 (.tmp 23) rfl rfl ((.slice (some ⟨g, 0, none⟩) S.n gc)) r_m rfl (by omega) rfl (by kernel_rfl) ?_)
                | (refine wpList_loadG 43 (.tmp 31) rfl rfl ((.slice (some ⟨wb, 0, none⟩) S.n wc)) r_m rfl (by omega) rfl (by kernel_rfl) ?_)
                | (refine wpList_loadG 42 (.tmp 34) rfl rfl (.slice a0 N cap) r_w rfl HWL.out HV.out (by kernel_rfl) ?_)
                | (have hgo := R48; clear hgo
                   refine wpList_binF .rem 3 3 (.tmp 45) (.tmp 47) rfl rfl (fun _ => rfl) (remF _ _ _ (by omega) R48.out) rfl rfl ?_
                   clear R48)
                | (have hgo := R54; clear hgo
                   refine wpList_binF .rem 3 3 (.tmp 50) (.tmp 53) rfl rfl (fun _ => rfl) (remF _ _ _ (by omega) R54.out) rfl rfl ?_
                   clear R54))
              have HE : Below wr.heap.size wr wr.drew := (Below.refl _ _).drew
              have HB : wr.heap.size ≤ wr.drew.heap.size := Nat.le_refl _
              refine wp_region_linf (Below wr.heap.size) (fun w => Below.refl _ w) (fun _ _ _ h k => h.trans k) 13 25 (.rd 0 (.rd 1 (.rd 2 (.rd 3 (.rd 4 (.rd 6 (.rd 7 (.rd 8 (.rd 9 (.br 5 (.wr 10 (.wr 11 (.rd 12 .done))) 10 (.wr 5 (.wr 11 (.rd 12 .done))))))))))))) (by kernel_rfl) (by kernel_rfl) (by decide) (by kernel_rfl) (fun d _ _ _ _ h => by cases d <;> exact h) ?_
              refine linf_pure 66 _ _ (.pointer (some ⟨m2, 0, none⟩)) rfl rfl rfl rfl rfl (fun wx hx => by unfold mkOp; go_simp; all_goals (with_reducible rfl)) ?_
              simp only [Act.put, zA, zB, zC]
              refine linf_pure 67 _ _ (.pointer (some ⟨m2, 0, none⟩)) rfl rfl rfl rfl rfl (fun wx hx => by unfold mkOp; go_simp; all_goals (with_reducible rfl)) ?_
              simp only [Act.put, zA, zB, zC]
              refine linf_pure 68 _ _ (.pointer (some ⟨m2, 0, none⟩)) rfl rfl rfl rfl rfl (fun wx hx => by unfold mkOp; go_simp; all_goals (with_reducible rfl)) ?_
              simp only [Act.put, zA, zB, zC]
              refine linf_pure 69 _ _ ((.slice (some ⟨g2, 0, none⟩) S.n gc2)) rfl rfl rfl rfl rfl (fun wx hx => by exact exec_load_cell _ _ _ _ rfl (by kernel_rfl) ((zrb r_x2 (HE.trans hx)).cell (by omega))) ?_
              simp only [Act.put, zA, zB, zC]
              refine linf_pure 70 _ _ (.int .i64 (i : Int)) rfl rfl rfl rfl rfl (fun wx hx => by unfold mkOp; go_simp; all_goals (with_reducible rfl)) ?_
              simp only [Act.put, zA, zB, zC]
              refine linf_pure 72 _ _ (.pointer (some ⟨m, 0, none⟩)) rfl rfl rfl rfl rfl (fun wx hx => by unfold mkOp; go_simp; all_goals (with_reducible rfl)) ?_
              simp only [Act.put, zA, zB, zC]
              refine linf_pure 73 _ _ (.int .i64 (i : Int)) rfl rfl rfl rfl rfl (fun wx hx => by unfold mkOp; go_simp; all_goals (with_reducible rfl)) ?_
              simp only [Act.put, zA, zB, zC]
              refine linf_pure 74 _ _ (.int .i64 (p : Int)) rfl rfl rfl rfl rfl (fun wx hx => by unfold mkOp; go_simp; all_goals (with_reducible rfl)) ?_
              simp only [Act.put, zA, zB, zC]
              refine linf_pure 75 _ _ (.int .i64 (h : Int)) rfl rfl rfl rfl rfl (fun wx hx => by exact exec_binF _ .quo 3 3 3 _ _ (fun _ => rfl) (quoF _ _ _ (by omega) HQ.out) rfl rfl) ?_
              simp only [Act.put, zA, zB, zC]
              refine ⟨?_, ?_⟩
              · skip
                refine lf_laid 71 (.buildSlice 39 0 #[]) _ 5 #[] 0 rfl rfl rfl rfl rfl (exec_bytV0 _ _ _) rfl (by unfold maxLen; omega) HB ?_
                intro v_71 wf1 o_71 hnw kk HB2
                replace HE := HE.trans (kk.mono HB)
                clear HB hnw kk
                have HB := HB2
                clear HB2
                simp only [Act.put, zA, zB, zC]
                refine linf_fn 76 37 _ _ _ (HCA.out _ (Bw0.trans (HE.mono HBW.out))) rfl rfl rfl rfl Try.func37 (by kernel_rfl) (by kernel_rfl) (by go_simp) ?_
                rintro e wf2 ⟨rfl, rfl⟩
                refine ⟨_, rfl, Below.refl _ _, ?_⟩
                simp only [Act.put, zA, zB, zC]
                refine lf_app 77 (.tmp 71) (.tmp 76) 39 5 v_71 va (.int .u8 0) 1 _ _ _ rfl rfl rfl rfl Try.underlying39 (by kernel_rfl) rfl (by decide) o_71 ((HVA.out _ (Sam.of_below (Bw0.trans (HE.mono HBW.out)))).vs) (fun i hi => rfl) rfl rfl (by have := HATL.out; simp; omega) HB ?_
                intro v_77 wf3 o_77 gk hsm kk HB2
                replace HE := HE.trans kk
                clear HB gk hsm kk o_71 
                have HB := HB2
                clear HB2
                replace o_77 := OwnV.u8 (l := AT) o_77
                simp only [Act.put, zA, zB, zC]
                refine linf_pure 78 _ _ (.pointer (some ⟨g2, i, none⟩)) rfl rfl rfl rfl rfl (fun wx hx => by unfold mkOp; go_simp; all_goals (with_reducible rfl)) ?_
                simp only [Act.put, zA, zB, zC]
                have hs77 := slc_cell o_77.slc
                refine linf_storeW (.store 39 (.tmp 78) (.tmp 77)) _ _ rfl rfl rfl rfl rfl (exec_store_cell _ _ _ _ _ (zrb r_g2 HE) rfl rfl (by kernel_rfl) hs77.1 hs77.2 HGL.out) ?_
                intro w5 hw5
                have k5 : Sam (· = g2) _ w5 := Sam.setW hw5 rfl
                have r_x5 := Sam.row (zrb r_x2 HE) k5 HR2.out.mg
                have hBB : wr.heap.size ≤ _ := HE.size
                have S5 : Sam (fun b => b = g2 ∨ wr.heap.size ≤ b) wr w5 := (Sam.of_below HE).trans (k5.mono fun b _ h => .inl h)
                have hno : ∀ b, v_77.ownBlock = some b → ¬ b = g2 := fun b hb e => by
                  have h1 := (o_77.block b hb).1
                  have h2 := HR2.out.rg.lt
                  omega
                have o_5 := OwnV.sam o_77 k5 hno
                have r_g5 : w5.rowIs g2 39 gc2 (updF gf2 i v_77) := rowIs_setW hw5 (zrb r_g2 HE) fun j hj => rfl
                have Bw5 : Below w.heap.size w w5 := (Bw0.trans (HE.mono HBW.out)).trans (k5.below (fun b hb => by rw [hb]; exact HLB.out.2.1) (Bw0.trans (HE.mono HBW.out)).size)
                have r_m5 := zrb HRM.out Bw5
                have r_w5 := zrb HR0.out.rw Bw5
                rcases o_5.row with ⟨_, hnil⟩ | ⟨bb, cb, fb, hvb, hbb, r_b, hcl, hcm, hfb⟩
                · exfalso
                  have h9 := congrArg List.length hnil
                  rw [u8s_length, HAT64.out] at h9
                  cases h9
                rw [u8s_length, HAT64.out] at hvb hcl
                have HFB : Hid (∀ j (hj : j < AT.length), fb j = .int .u8 ((AT[j]).toNat : Int)) := Lib.hid fun j hj => by
                  rw [hfb j (by rw [u8s_length]; exact hj)]
                  simp [u8s]
                subst hvb
                have HBB : Hid (wr.heap.size ≤ bb ∧ 64 ≤ cb ∧ cb ≤ maxLen) := Lib.hid ⟨hbb, hcl, hcm⟩
                clear k5 hw5 HE HB o_77 o_5 hs77 r_m r_g r_w r_x2 r_g2 HCA hBB hno hbb hcl hcm hfb
                go_wp2_with (first
                  | (have hgo := RM; clear hgo
                     refine wpList_binF .rem 3 3 (.tmp 79) _ rfl rfl (fun _ => rfl) (remF _ _ _ (by omega) RM.out) rfl rfl ?_
                     clear RM))
                have hcl5 := (Below.cell (h := Bw5) (p := ⟨bo, of, none⟩) HBO.out.1)
                have HCL : Hid (w5.cell? ⟨bo, of + h, none⟩ = some (f h)) := Lib.hid ((Below.cell (h := Bw5) (p := ⟨bo, of + h, none⟩) HBO.out.1).trans HBO.out.2)
                clear hcl5
                obtain ⟨v_t, f_t, hrt⟩ := takeB (HFH.out _ (Sam.of_below Bw5)) 32 (by rw [HLW.out]; decide)
                have HE : Below w5.heap.size w5 w5.drew := (Below.refl _ _).drew
                have HB : w5.heap.size ≤ w5.drew.heap.size := Nat.le_refl _
                refine wp_region_linf (Below w5.heap.size) (fun w => Below.refl _ w) (fun _ _ _ h k => h.trans k) 19 25 (.rd 0 (.rd 1 (.rd 2 (.rd 3 (.rd 4 (.rd 5 (.rd 6 (.rd 7 (.rd 8 (.rd 9 (.rd 10 (.rd 11 (.rd 12 (.rd 13 (.rd 14 (.rd 15 (.rd 16 (.rd 17 (.rd 18 .done))))))))))))))))))) (by kernel_rfl) (by kernel_rfl) (by decide) (by kernel_rfl) (fun d _ _ _ _ h => by cases d <;> exact h) ?_
                refine linf_pure 82 _ _ (.pointer (some ⟨m2, 0, none⟩)) rfl rfl rfl rfl rfl (fun wx hx => by unfold mkOp; go_simp; all_goals (with_reducible rfl)) ?_
                simp only [Act.put, zA, zB, zC]
                refine linf_pure 83 _ _ (.pointer (some ⟨m2, 0, none⟩)) rfl rfl rfl rfl rfl (fun wx hx => by unfold mkOp; go_simp; all_goals (with_reducible rfl)) ?_
                simp only [Act.put, zA, zB, zC]
                refine linf_pure 84 _ _ (.pointer (some ⟨m2, 0, none⟩)) rfl rfl rfl rfl rfl (fun wx hx => by unfold mkOp; go_simp; all_goals (with_reducible rfl)) ?_
                simp only [Act.put, zA, zB, zC]
                refine linf_pure 85 _ _ ((.slice (some ⟨g2, 0, none⟩) S.n gc2)) rfl rfl rfl rfl rfl (fun wx hx => by exact exec_load_cell _ _ _ _ rfl (by kernel_rfl) ((zrb r_x5 (HE.trans hx)).cell (by omega))) ?_
                simp only [Act.put, zA, zB, zC]
                refine linf_pure 86 _ _ (.int .i64 (i : Int)) rfl rfl rfl rfl rfl (fun wx hx => by unfold mkOp; go_simp; all_goals (with_reducible rfl)) ?_
                simp only [Act.put, zA, zB, zC]
                refine linf_pure 87 _ _ (.pointer (some ⟨g2, i, none⟩)) rfl rfl rfl rfl rfl (fun wx hx => by unfold mkOp; go_simp; all_goals (with_reducible rfl)) ?_
                simp only [Act.put, zA, zB, zC]
                refine linf_pure 88 _ _ (.slice (some ⟨bb, 0, none⟩) 64 cb) rfl rfl rfl rfl rfl (fun wx hx => by have hc := (zrb r_g5 (HE.trans hx)).cell HGL.out; unfold updF at hc; rw [if_pos rfl] at hc; exact exec_load_cell _ _ _ _ rfl (by kernel_rfl) hc) ?_
                simp only [Act.put, zA, zB, zC]
                refine linf_pure 89 _ _ (.pointer (some ⟨m, 0, none⟩)) rfl rfl rfl rfl rfl (fun wx hx => by unfold mkOp; go_simp; all_goals (with_reducible rfl)) ?_
                simp only [Act.put, zA, zB, zC]
                refine linf_pure 90 _ _ (.pointer (some ⟨m, 0, none⟩)) rfl rfl rfl rfl rfl (fun wx hx => by unfold mkOp; go_simp; all_goals (with_reducible rfl)) ?_
                simp only [Act.put, zA, zB, zC]
                refine linf_pure 91 _ _ (.pointer (some ⟨m, 1, none⟩)) rfl rfl rfl rfl rfl (fun wx hx => by unfold mkOp; go_simp; all_goals (with_reducible rfl)) ?_
                simp only [Act.put, zA, zB, zC]
                refine linf_pure 92 _ _ ((.slice (some ⟨wb, 0, none⟩) S.n wc)) rfl rfl rfl rfl rfl (fun wx hx => by exact exec_load_cell _ _ _ _ rfl (by kernel_rfl) ((zrb r_m5 (HE.trans hx)).cell (by omega))) ?_
                simp only [Act.put, zA, zB, zC]
                refine linf_pure 93 _ _ (.int .i64 (i : Int)) rfl rfl rfl rfl rfl (fun wx hx => by unfold mkOp; go_simp; all_goals (with_reducible rfl)) ?_
                simp only [Act.put, zA, zB, zC]
                refine linf_pure 94 _ _ (.pointer (some ⟨wb, i, none⟩)) rfl rfl rfl rfl rfl (fun wx hx => by unfold mkOp; go_simp; all_goals (with_reducible rfl)) ?_
                simp only [Act.put, zA, zB, zC]
                refine linf_pure 95 _ _ (.slice (some ⟨bo, of, none⟩) N cap) rfl rfl rfl rfl rfl (fun wx hx => by rw [← HV2.out]; exact exec_load_cell _ _ _ _ rfl (by kernel_rfl) ((zrb r_w5 (HE.trans hx)).cell HWL.out)) ?_
                simp only [Act.put, zA, zB, zC]
                refine linf_pure 96 _ _ (.int .i64 (p : Int)) rfl rfl rfl rfl rfl (fun wx hx => by unfold mkOp; go_simp; all_goals (with_reducible rfl)) ?_
                simp only [Act.put, zA, zB, zC]
                refine linf_pure 97 _ _ (.int .i64 (h : Int)) rfl rfl rfl rfl rfl (fun wx hx => by exact exec_binF _ .quo 3 3 3 _ _ (fun _ => rfl) (quoF _ _ _ (by omega) HQ.out) rfl rfl) ?_
                simp only [Act.put, zA, zB, zC]
                refine linf_pure 98 _ _ (.pointer (some ⟨bo, of + h, none⟩)) rfl rfl rfl rfl rfl (fun wx hx => by unfold mkOp; go_simp; all_goals (with_reducible rfl)) ?_
                simp only [Act.put, zA, zB, zC]
                refine linf_pure 99 _ _ (f h) rfl rfl rfl rfl rfl (fun wx hx => by exact exec_load_cell _ _ _ _ rfl (by kernel_rfl) (((HE.trans hx).cell (p := ⟨bo, of + h, none⟩) (Nat.lt_of_lt_of_le HBO.out.1 (HGS.out _ Bw5))).trans HCL.out)) ?_
                simp only [Act.put, zA, zB, zC]
                refine linf_pure 100 _ _ (v_t) rfl rfl rfl rfl rfl (fun wx hx => by exact hrt _ _ _ _ _ rfl rfl) ?_
                simp only [Act.put, zA, zB, zC]
                refine linf_copy 101 (.tmp 88) (.tmp 100) rfl rfl rfl rfl (zrb r_b HE) (zfb f_t HE) rfl rfl (by have := HBB.out; omega) 32 (by rw [List.length_take, HLW.out]; rfl) ?_
                intro v_z w6 r_b6 gk6
                simp only [Act.put, zA, zB, zC]
                have k6 : Sam (fun b => b = g2 ∨ wr.heap.size ≤ b) w5 w6 := (Sam.of_below HE).trans (Sam.of_grown gk6 fun b hb => by cases hb; exact .inr HBB.out.1)
                have S6 := S5.trans k6
                have r_g6 := (zrb r_g5 HE).of_block (gk6.block g2 (zrb r_g5 HE).lt (fun e => by have h9 := HBB.out.1; have h8 := HR2.out.rg.lt; cases e; omega))
                have r_x6 := Sam.row r_x5 k6 (fun e => by have h8 := r_x5.lt; have h7 := HNB.out m2 (.inr (.inl rfl)); rcases e with e | e; exact HR2.out.mg e; omega)
                have hv6 : BsK (fun b => M b ∨ b = m2 ∨ b = g2 ∨ b = wb2) w6 (.slice (some ⟨bb, 0, none⟩) 64 cb) (crG S L pk i) := by
                  rw [HPK.out]
                  have hl6 : (LW.take 32 ++ AT.drop 32).length = 64 := by rw [List.length_append, List.length_take, List.length_drop, HLW.out, HAT64.out]; rfl
                  have hk6 := BsK.of_row (M := (fun b => M b ∨ b = m2 ∨ b = g2 ∨ b = wb2)) (l := LW.take 32 ++ AT.drop 32) r_b6 (by rw [hl6]; exact HBB.out.2.1) HBB.out.2.2 (fun j hj => ?_) (fun hb => by have h9 := HNB.out bb hb; have h8 := HBB.out.1; omega)
                  · rw [hl6] at hk6
                    exact hk6
                  · rw [hl6] at hj
                    unfold putN bytesAt
                    by_cases hj2 : j < 32
                    · rw [if_pos (by omega), List.getElem_append_left (by rw [List.length_take, HLW.out]; omega), Nat.sub_zero, List.getD_eq_getElem?_getD, List.getElem?_eq_getElem (by rw [List.length_take, HLW.out]; omega)]
                      rfl
                    · rw [if_neg (by omega), HFB.out j (by rw [HAT64.out]; exact hj)]
                      rw [List.getElem_append_right (by rw [List.length_take, HLW.out]; omega)]
                      simp only [List.getElem_drop, List.length_take, HLW.out]
                      congr 3
                      simp only [show min 32 64 = 32 from rfl, show 32 + (j - 32) = j by omega]
                have hr6 := HR2.out.gset2 (Nat.le_refl _) S6 r_g6 hv6
                rw [crI_step S L pk i _ rfl] at hr6
                have Bw6 : Below w.heap.size w w6 := Bw0.trans (S6.below (fun b hb => by rcases hb with hb | hb; rw [hb]; exact HLB.out.2.1; have := HBW.out; omega) HBW.out)
                have HR6 := Lib.hid hr6
                clear hr6 hv6 r_g6 r_b6 gk6 k6 S6 S5 HE HB r_x5 r_g5 r_b r_m5 r_w5 f_t hrt
                go_wp2
                go_roundw
                case rel => exact ⟨i + 1, HI.out, HCS.out, by rw [HI1.out], ⟨gc2, wc2, _, _, r_x6, HR6.out⟩, Bw6⟩
                case measure => (have := HI.out; have := HI1.out; simp [intOf]; try omega)
              · skip
                refine linf_fn 76 37 _ _ _ (HCA.out _ (Bw0.trans (HE.mono HBW.out))) rfl rfl rfl rfl Try.func37 (by kernel_rfl) (by kernel_rfl) (by go_simp) ?_
                rintro e wf1 ⟨rfl, rfl⟩
                refine ⟨_, rfl, Below.refl _ _, ?_⟩
                simp only [Act.put, zA, zB, zC]
                refine lf_laid 71 (.buildSlice 39 0 #[]) _ 5 #[] 0 rfl rfl rfl rfl rfl (exec_bytV0 _ _ _) rfl (by unfold maxLen; omega) HB ?_
                intro v_71 wf2 o_71 hnw kk HB2
                replace HE := HE.trans (kk.mono HB)
                clear HB hnw kk
                have HB := HB2
                clear HB2
                simp only [Act.put, zA, zB, zC]
                refine lf_app 77 (.tmp 71) (.tmp 76) 39 5 v_71 va (.int .u8 0) 1 _ _ _ rfl rfl rfl rfl Try.underlying39 (by kernel_rfl) rfl (by decide) o_71 ((HVA.out _ (Sam.of_below (Bw0.trans (HE.mono HBW.out)))).vs) (fun i hi => rfl) rfl rfl (by have := HATL.out; simp; omega) HB ?_
                intro v_77 wf3 o_77 gk hsm kk HB2
                replace HE := HE.trans kk
                clear HB gk hsm kk o_71 
                have HB := HB2
                clear HB2
                replace o_77 := OwnV.u8 (l := AT) o_77
                simp only [Act.put, zA, zB, zC]
                refine linf_pure 78 _ _ (.pointer (some ⟨g2, i, none⟩)) rfl rfl rfl rfl rfl (fun wx hx => by unfold mkOp; go_simp; all_goals (with_reducible rfl)) ?_
                simp only [Act.put, zA, zB, zC]
                have hs77 := slc_cell o_77.slc
                refine linf_storeW (.store 39 (.tmp 78) (.tmp 77)) _ _ rfl rfl rfl rfl rfl (exec_store_cell _ _ _ _ _ (zrb r_g2 HE) rfl rfl (by kernel_rfl) hs77.1 hs77.2 HGL.out) ?_
                intro w5 hw5
                have k5 : Sam (· = g2) _ w5 := Sam.setW hw5 rfl
                have r_x5 := Sam.row (zrb r_x2 HE) k5 HR2.out.mg
                have hBB : wr.heap.size ≤ _ := HE.size
                have S5 : Sam (fun b => b = g2 ∨ wr.heap.size ≤ b) wr w5 := (Sam.of_below HE).trans (k5.mono fun b _ h => .inl h)
                have hno : ∀ b, v_77.ownBlock = some b → ¬ b = g2 := fun b hb e => by
                  have h1 := (o_77.block b hb).1
                  have h2 := HR2.out.rg.lt
                  omega
                have o_5 := OwnV.sam o_77 k5 hno
                have r_g5 : w5.rowIs g2 39 gc2 (updF gf2 i v_77) := rowIs_setW hw5 (zrb r_g2 HE) fun j hj => rfl
                have Bw5 : Below w.heap.size w w5 := (Bw0.trans (HE.mono HBW.out)).trans (k5.below (fun b hb => by rw [hb]; exact HLB.out.2.1) (Bw0.trans (HE.mono HBW.out)).size)
                have r_m5 := zrb HRM.out Bw5
                have r_w5 := zrb HR0.out.rw Bw5
                rcases o_5.row with ⟨_, hnil⟩ | ⟨bb, cb, fb, hvb, hbb, r_b, hcl, hcm, hfb⟩
                · exfalso
                  have h9 := congrArg List.length hnil
                  rw [u8s_length, HAT64.out] at h9
                  cases h9
                rw [u8s_length, HAT64.out] at hvb hcl
                have HFB : Hid (∀ j (hj : j < AT.length), fb j = .int .u8 ((AT[j]).toNat : Int)) := Lib.hid fun j hj => by
                  rw [hfb j (by rw [u8s_length]; exact hj)]
                  simp [u8s]
                subst hvb
                have HBB : Hid (wr.heap.size ≤ bb ∧ 64 ≤ cb ∧ cb ≤ maxLen) := Lib.hid ⟨hbb, hcl, hcm⟩
                clear k5 hw5 HE HB o_77 o_5 hs77 r_m r_g r_w r_x2 r_g2 HCA hBB hno hbb hcl hcm hfb
                go_wp2_with (first
                  | (have hgo := RM; clear hgo
                     refine wpList_binF .rem 3 3 (.tmp 79) _ rfl rfl (fun _ => rfl) (remF _ _ _ (by omega) RM.out) rfl rfl ?_
                     clear RM))
                have hcl5 := (Below.cell (h := Bw5) (p := ⟨bo, of, none⟩) HBO.out.1)
                have HCL : Hid (w5.cell? ⟨bo, of + h, none⟩ = some (f h)) := Lib.hid ((Below.cell (h := Bw5) (p := ⟨bo, of + h, none⟩) HBO.out.1).trans HBO.out.2)
                clear hcl5
                obtain ⟨v_t, f_t, hrt⟩ := takeB (HFH.out _ (Sam.of_below Bw5)) 32 (by rw [HLW.out]; decide)
                have HE : Below w5.heap.size w5 w5.drew := (Below.refl _ _).drew
                have HB : w5.heap.size ≤ w5.drew.heap.size := Nat.le_refl _
                refine wp_region_linf (Below w5.heap.size) (fun w => Below.refl _ w) (fun _ _ _ h k => h.trans k) 19 25 (.rd 0 (.rd 1 (.rd 2 (.rd 3 (.rd 4 (.rd 5 (.rd 6 (.rd 7 (.rd 8 (.rd 9 (.rd 10 (.rd 11 (.rd 12 (.rd 13 (.rd 14 (.rd 15 (.rd 16 (.rd 17 (.rd 18 .done))))))))))))))))))) (by kernel_rfl) (by kernel_rfl) (by decide) (by kernel_rfl) (fun d _ _ _ _ h => by cases d <;> exact h) ?_
                refine linf_pure 82 _ _ (.pointer (some ⟨m2, 0, none⟩)) rfl rfl rfl rfl rfl (fun wx hx => by unfold mkOp; go_simp; all_goals (with_reducible rfl)) ?_
                simp only [Act.put, zA, zB, zC]
                refine linf_pure 83 _ _ (.pointer (some ⟨m2, 0, none⟩)) rfl rfl rfl rfl rfl (fun wx hx => by unfold mkOp; go_simp; all_goals (with_reducible rfl)) ?_
                simp only [Act.put, zA, zB, zC]
                refine linf_pure 84 _ _ (.pointer (some ⟨m2, 0, none⟩)) rfl rfl rfl rfl rfl (fun wx hx => by unfold mkOp; go_simp; all_goals (with_reducible rfl)) ?_
                simp only [Act.put, zA, zB, zC]
                refine linf_pure 85 _ _ ((.slice (some ⟨g2, 0, none⟩) S.n gc2)) rfl rfl rfl rfl rfl (fun wx hx => by exact exec_load_cell _ _ _ _ rfl (by kernel_rfl) ((zrb r_x5 (HE.trans hx)).cell (by omega))) ?_
                simp only [Act.put, zA, zB, zC]
                refine linf_pure 86 _ _ (.int .i64 (i : Int)) rfl rfl rfl rfl rfl (fun wx hx => by unfold mkOp; go_simp; all_goals (with_reducible rfl)) ?_
                simp only [Act.put, zA, zB, zC]
                refine linf_pure 87 _ _ (.pointer (some ⟨g2, i, none⟩)) rfl rfl rfl rfl rfl (fun wx hx => by unfold mkOp; go_simp; all_goals (with_reducible rfl)) ?_
                simp only [Act.put, zA, zB, zC]
                refine linf_pure 88 _ _ (.slice (some ⟨bb, 0, none⟩) 64 cb) rfl rfl rfl rfl rfl (fun wx hx => by have hc := (zrb r_g5 (HE.trans hx)).cell HGL.out; unfold updF at hc; rw [if_pos rfl] at hc; exact exec_load_cell _ _ _ _ rfl (by kernel_rfl) hc) ?_
                simp only [Act.put, zA, zB, zC]
                refine linf_pure 89 _ _ (.pointer (some ⟨m, 0, none⟩)) rfl rfl rfl rfl rfl (fun wx hx => by unfold mkOp; go_simp; all_goals (with_reducible rfl)) ?_
                simp only [Act.put, zA, zB, zC]
                refine linf_pure 90 _ _ (.pointer (some ⟨m, 0, none⟩)) rfl rfl rfl rfl rfl (fun wx hx => by unfold mkOp; go_simp; all_goals (with_reducible rfl)) ?_
                simp only [Act.put, zA, zB, zC]
                refine linf_pure 91 _ _ (.pointer (some ⟨m, 1, none⟩)) rfl rfl rfl rfl rfl (fun wx hx => by unfold mkOp; go_simp; all_goals (with_reducible rfl)) ?_
                simp only [Act.put, zA, zB, zC]
                refine linf_pure 92 _ _ ((.slice (some ⟨wb, 0, none⟩) S.n wc)) rfl rfl rfl rfl rfl (fun wx hx => by exact exec_load_cell _ _ _ _ rfl (by kernel_rfl) ((zrb r_m5 (HE.trans hx)).cell (by omega))) ?_
                simp only [Act.put, zA, zB, zC]
                refine linf_pure 93 _ _ (.int .i64 (i : Int)) rfl rfl rfl rfl rfl (fun wx hx => by unfold mkOp; go_simp; all_goals (with_reducible rfl)) ?_
                simp only [Act.put, zA, zB, zC]
                refine linf_pure 94 _ _ (.pointer (some ⟨wb, i, none⟩)) rfl rfl rfl rfl rfl (fun wx hx => by unfold mkOp; go_simp; all_goals (with_reducible rfl)) ?_
                simp only [Act.put, zA, zB, zC]
                refine linf_pure 95 _ _ (.slice (some ⟨bo, of, none⟩) N cap) rfl rfl rfl rfl rfl (fun wx hx => by rw [← HV2.out]; exact exec_load_cell _ _ _ _ rfl (by kernel_rfl) ((zrb r_w5 (HE.trans hx)).cell HWL.out)) ?_
                simp only [Act.put, zA, zB, zC]
                refine linf_pure 96 _ _ (.int .i64 (p : Int)) rfl rfl rfl rfl rfl (fun wx hx => by unfold mkOp; go_simp; all_goals (with_reducible rfl)) ?_
                simp only [Act.put, zA, zB, zC]
                refine linf_pure 97 _ _ (.int .i64 (h : Int)) rfl rfl rfl rfl rfl (fun wx hx => by exact exec_binF _ .quo 3 3 3 _ _ (fun _ => rfl) (quoF _ _ _ (by omega) HQ.out) rfl rfl) ?_
                simp only [Act.put, zA, zB, zC]
                refine linf_pure 98 _ _ (.pointer (some ⟨bo, of + h, none⟩)) rfl rfl rfl rfl rfl (fun wx hx => by unfold mkOp; go_simp; all_goals (with_reducible rfl)) ?_
                simp only [Act.put, zA, zB, zC]
                refine linf_pure 99 _ _ (f h) rfl rfl rfl rfl rfl (fun wx hx => by exact exec_load_cell _ _ _ _ rfl (by kernel_rfl) (((HE.trans hx).cell (p := ⟨bo, of + h, none⟩) (Nat.lt_of_lt_of_le HBO.out.1 (HGS.out _ Bw5))).trans HCL.out)) ?_
                simp only [Act.put, zA, zB, zC]
                refine linf_pure 100 _ _ (v_t) rfl rfl rfl rfl rfl (fun wx hx => by exact hrt _ _ _ _ _ rfl rfl) ?_
                simp only [Act.put, zA, zB, zC]
                refine linf_copy 101 (.tmp 88) (.tmp 100) rfl rfl rfl rfl (zrb r_b HE) (zfb f_t HE) rfl rfl (by have := HBB.out; omega) 32 (by rw [List.length_take, HLW.out]; rfl) ?_
                intro v_z w6 r_b6 gk6
                simp only [Act.put, zA, zB, zC]
                have k6 : Sam (fun b => b = g2 ∨ wr.heap.size ≤ b) w5 w6 := (Sam.of_below HE).trans (Sam.of_grown gk6 fun b hb => by cases hb; exact .inr HBB.out.1)
                have S6 := S5.trans k6
                have r_g6 := (zrb r_g5 HE).of_block (gk6.block g2 (zrb r_g5 HE).lt (fun e => by have h9 := HBB.out.1; have h8 := HR2.out.rg.lt; cases e; omega))
                have r_x6 := Sam.row r_x5 k6 (fun e => by have h8 := r_x5.lt; have h7 := HNB.out m2 (.inr (.inl rfl)); rcases e with e | e; exact HR2.out.mg e; omega)
                have hv6 : BsK (fun b => M b ∨ b = m2 ∨ b = g2 ∨ b = wb2) w6 (.slice (some ⟨bb, 0, none⟩) 64 cb) (crG S L pk i) := by
                  rw [HPK.out]
                  have hl6 : (LW.take 32 ++ AT.drop 32).length = 64 := by rw [List.length_append, List.length_take, List.length_drop, HLW.out, HAT64.out]; rfl
                  have hk6 := BsK.of_row (M := (fun b => M b ∨ b = m2 ∨ b = g2 ∨ b = wb2)) (l := LW.take 32 ++ AT.drop 32) r_b6 (by rw [hl6]; exact HBB.out.2.1) HBB.out.2.2 (fun j hj => ?_) (fun hb => by have h9 := HNB.out bb hb; have h8 := HBB.out.1; omega)
                  · rw [hl6] at hk6
                    exact hk6
                  · rw [hl6] at hj
                    unfold putN bytesAt
                    by_cases hj2 : j < 32
                    · rw [if_pos (by omega), List.getElem_append_left (by rw [List.length_take, HLW.out]; omega), Nat.sub_zero, List.getD_eq_getElem?_getD, List.getElem?_eq_getElem (by rw [List.length_take, HLW.out]; omega)]
                      rfl
                    · rw [if_neg (by omega), HFB.out j (by rw [HAT64.out]; exact hj)]
                      rw [List.getElem_append_right (by rw [List.length_take, HLW.out]; omega)]
                      simp only [List.getElem_drop, List.length_take, HLW.out]
                      congr 3
                      simp only [show min 32 64 = 32 from rfl, show 32 + (j - 32) = j by omega]
                have hr6 := HR2.out.gset2 (Nat.le_refl _) S6 r_g6 hv6
                rw [crI_step S L pk i _ rfl] at hr6
                have Bw6 : Below w.heap.size w w6 := Bw0.trans (S6.below (fun b hb => by rcases hb with hb | hb; rw [hb]; exact HLB.out.2.1; have := HBW.out; omega) HBW.out)
                have HR6 := Lib.hid hr6
                clear hr6 hv6 r_g6 r_b6 gk6 k6 S6 S5 HE HB r_x5 r_g5 r_b r_m5 r_w5 f_t hrt
                go_wp2
                go_roundw
                case rel => exact ⟨i + 1, HI.out, HCS.out, by rw [HI1.out], ⟨gc2, wc2, _, _, r_x6, HR6.out⟩, Bw6⟩
                case measure => (have := HI.out; have := HI1.out; simp [intOf]; try omega)
            · skip
              have HQ : Hid (IntKind.i64.wrap ((p : Int).tdiv 2) = (h : Int)) := Lib.hid (by rw [Int.tdiv_eq_ediv_of_nonneg (by omega), IntWalk.i64_in _ (by omega)]; omega)
              have hrm : (p : Int).tmod 2 = 0 := by rw [Int.tmod_eq_emod_of_nonneg (by omega)]; omega
              have RM := Lib.hid hrm
              clear hrm
              obtain ⟨va, hva, hca⟩ := HFIX.out i h HI.out HHL.out
              obtain ⟨AT, hAT⟩ : ∃ A, A = atS S i h := ⟨_, rfl⟩
              rw [← hAT] at hva
              have HVA := Lib.hid hva
              have HCA := Lib.hid hca
              have HAT64 : Hid (AT.length = 64) := Lib.hid (by rw [hAT]; exact atS_len S i h (HG.out i HI.out) (HW.out i HI.out) HHL.out)
              have HATL : Hid (AT.length ≤ 64) := Lib.hid (by rw [HAT64.out]; exact Nat.le_refl _)
              have HAT0 := Lib.hid hAT
              have HPK : Hid (crG S L pk i = AT) := Lib.hid (by unfold crG; rw [hpk, if_neg (by omega), ← hhp]; exact hAT.symm)
              clear hva hca hAT hpk n0 l0 hCI hCL hpb hpc hP hPB hD0 hD hNM hR hpk0 hlo hhi hneg hp hpI ho hhp hp2 hR1
              go_wp2_with (first
                | (refine wpList_loadG 42 (.tmp 23) rfl rfl ((.slice (some ⟨g, 0, none⟩) S.n gc)) r_m rfl (by omega) rfl (by kernel_rfl) ?_)
                | (refine wpList_loadG 43 (.tmp 31) rfl rfl ((.slice (some ⟨wb, 0, none⟩) S.n wc)) r_m rfl (by omega) rfl (by kernel_rfl) ?_)
                | (refine wpList_loadG 42 (.tmp 34) rfl rfl (.slice a0 N cap) r_w rfl HWL.out HV.out (by kernel_rfl) ?_)
                | (have hgo := R48; clear hgo
                   refine wpList_binF .rem 3 3 (.tmp 45) (.tmp 47) rfl rfl (fun _ => rfl) (remF _ _ _ (by omega) R48.out) rfl rfl ?_
                   clear R48)
                | (have hgo := R54; clear hgo
                   refine wpList_binF .rem 3 3 (.tmp 50) (.tmp 53) rfl rfl (fun _ => rfl) (remF _ _ _ (by omega) R54.out) rfl rfl ?_
                   clear R54))
              have HE : Below wr.heap.size wr wr.drew := (Below.refl _ _).drew
              have HB : wr.heap.size ≤ wr.drew.heap.size := Nat.le_refl _
              refine wp_region_linf (Below wr.heap.size) (fun w => Below.refl _ w) (fun _ _ _ h k => h.trans k) 13 25 (.rd 0 (.rd 1 (.rd 2 (.rd 3 (.rd 4 (.rd 6 (.rd 7 (.rd 8 (.rd 9 (.br 5 (.wr 10 (.wr 11 (.rd 12 .done))) 10 (.wr 5 (.wr 11 (.rd 12 .done))))))))))))) (by kernel_rfl) (by kernel_rfl) (by decide) (by kernel_rfl) (fun d _ _ _ _ h => by cases d <;> exact h) ?_
              refine linf_pure 66 _ _ (.pointer (some ⟨m2, 0, none⟩)) rfl rfl rfl rfl rfl (fun wx hx => by unfold mkOp; go_simp; all_goals (with_reducible rfl)) ?_
              simp only [Act.put, zA, zB, zC]
              refine linf_pure 67 _ _ (.pointer (some ⟨m2, 0, none⟩)) rfl rfl rfl rfl rfl (fun wx hx => by unfold mkOp; go_simp; all_goals (with_reducible rfl)) ?_
              simp only [Act.put, zA, zB, zC]
              refine linf_pure 68 _ _ (.pointer (some ⟨m2, 0, none⟩)) rfl rfl rfl rfl rfl (fun wx hx => by unfold mkOp; go_simp; all_goals (with_reducible rfl)) ?_
              simp only [Act.put, zA, zB, zC]
              refine linf_pure 69 _ _ ((.slice (some ⟨g2, 0, none⟩) S.n gc2)) rfl rfl rfl rfl rfl (fun wx hx => by exact exec_load_cell _ _ _ _ rfl (by kernel_rfl) ((zrb r_x2 (HE.trans hx)).cell (by omega))) ?_
              simp only [Act.put, zA, zB, zC]
              refine linf_pure 70 _ _ (.int .i64 (i : Int)) rfl rfl rfl rfl rfl (fun wx hx => by unfold mkOp; go_simp; all_goals (with_reducible rfl)) ?_
              simp only [Act.put, zA, zB, zC]
              refine linf_pure 72 _ _ (.pointer (some ⟨m, 0, none⟩)) rfl rfl rfl rfl rfl (fun wx hx => by unfold mkOp; go_simp; all_goals (with_reducible rfl)) ?_
              simp only [Act.put, zA, zB, zC]
              refine linf_pure 73 _ _ (.int .i64 (i : Int)) rfl rfl rfl rfl rfl (fun wx hx => by unfold mkOp; go_simp; all_goals (with_reducible rfl)) ?_
              simp only [Act.put, zA, zB, zC]
              refine linf_pure 74 _ _ (.int .i64 (p : Int)) rfl rfl rfl rfl rfl (fun wx hx => by unfold mkOp; go_simp; all_goals (with_reducible rfl)) ?_
              simp only [Act.put, zA, zB, zC]
              refine linf_pure 75 _ _ (.int .i64 (h : Int)) rfl rfl rfl rfl rfl (fun wx hx => by exact exec_binF _ .quo 3 3 3 _ _ (fun _ => rfl) (quoF _ _ _ (by omega) HQ.out) rfl rfl) ?_
              simp only [Act.put, zA, zB, zC]
              refine ⟨?_, ?_⟩
              · skip
                refine lf_laid 71 (.buildSlice 39 0 #[]) _ 5 #[] 0 rfl rfl rfl rfl rfl (exec_bytV0 _ _ _) rfl (by unfold maxLen; omega) HB ?_
                intro v_71 wf1 o_71 hnw kk HB2
                replace HE := HE.trans (kk.mono HB)
                clear HB hnw kk
                have HB := HB2
                clear HB2
                simp only [Act.put, zA, zB, zC]
                refine linf_fn 76 37 _ _ _ (HCA.out _ (Bw0.trans (HE.mono HBW.out))) rfl rfl rfl rfl Try.func37 (by kernel_rfl) (by kernel_rfl) (by go_simp) ?_
                rintro e wf2 ⟨rfl, rfl⟩
                refine ⟨_, rfl, Below.refl _ _, ?_⟩
                simp only [Act.put, zA, zB, zC]
                refine lf_app 77 (.tmp 71) (.tmp 76) 39 5 v_71 va (.int .u8 0) 1 _ _ _ rfl rfl rfl rfl Try.underlying39 (by kernel_rfl) rfl (by decide) o_71 ((HVA.out _ (Sam.of_below (Bw0.trans (HE.mono HBW.out)))).vs) (fun i hi => rfl) rfl rfl (by have := HATL.out; simp; omega) HB ?_
                intro v_77 wf3 o_77 gk hsm kk HB2
                replace HE := HE.trans kk
                clear HB gk hsm kk o_71 
                have HB := HB2
                clear HB2
                replace o_77 := OwnV.u8 (l := AT) o_77
                simp only [Act.put, zA, zB, zC]
                refine linf_pure 78 _ _ (.pointer (some ⟨g2, i, none⟩)) rfl rfl rfl rfl rfl (fun wx hx => by unfold mkOp; go_simp; all_goals (with_reducible rfl)) ?_
                simp only [Act.put, zA, zB, zC]
                have hs77 := slc_cell o_77.slc
                refine linf_storeW (.store 39 (.tmp 78) (.tmp 77)) _ _ rfl rfl rfl rfl rfl (exec_store_cell _ _ _ _ _ (zrb r_g2 HE) rfl rfl (by kernel_rfl) hs77.1 hs77.2 HGL.out) ?_
                intro w5 hw5
                have k5 : Sam (· = g2) _ w5 := Sam.setW hw5 rfl
                have r_x5 := Sam.row (zrb r_x2 HE) k5 HR2.out.mg
                have hr5 := HR2.out.gsetW HE HI.out (BsK.own o_77.owns HNB.out) hw5
                rw [crI_step S L pk i AT HPK.out] at hr5
                have HR5 := Lib.hid hr5
                have Bw5 : Below w.heap.size w w5 := (Bw0.trans (HE.mono HBW.out)).trans (k5.below (fun b hb => by rw [hb]; exact HLB.out.2.1) (Bw0.trans (HE.mono HBW.out)).size)
                clear hr5 k5 hw5 HE HB o_77 hs77 r_m r_g r_w r_x2 r_g2 HCA
                go_wp2_with (first
                  | (have hgo := RM; clear hgo
                     refine wpList_binF .rem 3 3 (.tmp 79) _ rfl rfl (fun _ => rfl) (remF _ _ _ (by omega) RM.out) rfl rfl ?_
                     clear RM))
                go_roundw
                case rel => exact ⟨i + 1, HI.out, HCS.out, by rw [HI1.out], ⟨gc2, wc2, _, _, r_x5, HR5.out⟩, Bw5⟩
                case measure => (have := HI.out; have := HI1.out; simp [intOf]; try omega)
              · skip
                refine linf_fn 76 37 _ _ _ (HCA.out _ (Bw0.trans (HE.mono HBW.out))) rfl rfl rfl rfl Try.func37 (by kernel_rfl) (by kernel_rfl) (by go_simp) ?_
                rintro e wf1 ⟨rfl, rfl⟩
                refine ⟨_, rfl, Below.refl _ _, ?_⟩
                simp only [Act.put, zA, zB, zC]
                refine lf_laid 71 (.buildSlice 39 0 #[]) _ 5 #[] 0 rfl rfl rfl rfl rfl (exec_bytV0 _ _ _) rfl (by unfold maxLen; omega) HB ?_
                intro v_71 wf2 o_71 hnw kk HB2
                replace HE := HE.trans (kk.mono HB)
                clear HB hnw kk
                have HB := HB2
                clear HB2
                simp only [Act.put, zA, zB, zC]
                refine lf_app 77 (.tmp 71) (.tmp 76) 39 5 v_71 va (.int .u8 0) 1 _ _ _ rfl rfl rfl rfl Try.underlying39 (by kernel_rfl) rfl (by decide) o_71 ((HVA.out _ (Sam.of_below (Bw0.trans (HE.mono HBW.out)))).vs) (fun i hi => rfl) rfl rfl (by have := HATL.out; simp; omega) HB ?_
                intro v_77 wf3 o_77 gk hsm kk HB2
                replace HE := HE.trans kk
                clear HB gk hsm kk o_71 
                have HB := HB2
                clear HB2
                replace o_77 := OwnV.u8 (l := AT) o_77
                simp only [Act.put, zA, zB, zC]
                refine linf_pure 78 _ _ (.pointer (some ⟨g2, i, none⟩)) rfl rfl rfl rfl rfl (fun wx hx => by unfold mkOp; go_simp; all_goals (with_reducible rfl)) ?_
                simp only [Act.put, zA, zB, zC]
                have hs77 := slc_cell o_77.slc
                refine linf_storeW (.store 39 (.tmp 78) (.tmp 77)) _ _ rfl rfl rfl rfl rfl (exec_store_cell _ _ _ _ _ (zrb r_g2 HE) rfl rfl (by kernel_rfl) hs77.1 hs77.2 HGL.out) ?_
                intro w5 hw5
                have k5 : Sam (· = g2) _ w5 := Sam.setW hw5 rfl
                have r_x5 := Sam.row (zrb r_x2 HE) k5 HR2.out.mg
                have hr5 := HR2.out.gsetW HE HI.out (BsK.own o_77.owns HNB.out) hw5
                rw [crI_step S L pk i AT HPK.out] at hr5
                have HR5 := Lib.hid hr5
                have Bw5 : Below w.heap.size w w5 := (Bw0.trans (HE.mono HBW.out)).trans (k5.below (fun b hb => by rw [hb]; exact HLB.out.2.1) (Bw0.trans (HE.mono HBW.out)).size)
                clear hr5 k5 hw5 HE HB o_77 hs77 r_m r_g r_w r_x2 r_g2 HCA
                go_wp2_with (first
                  | (have hgo := RM; clear hgo
                     refine wpList_binF .rem 3 3 (.tmp 79) _ rfl rfl (fun _ => rfl) (remF _ _ _ (by omega) RM.out) rfl rfl ?_
                     clear RM))
                go_roundw
                case rel => exact ⟨i + 1, HI.out, HCS.out, by rw [HI1.out], ⟨gc2, wc2, _, _, r_x5, HR5.out⟩, Bw5⟩
                case measure => (have := HI.out; have := HI1.out; simp [intOf]; try omega)
          · obtain ⟨p, hp⟩ := nat_var R.toNat
            have hpI : (p : Int) = R := by omega
            have R54 : Hid (P.tmod (D : Int) = (p : Int)) := Lib.hid (by rw [hpI]; exact hR.symm)
            have hpk : pickS S L pk i = p := by rw [hpk0, hp, ← tmod_up P (D : Int) (by rw [← hR]; omega) (by omega), ← hR]
            have qR : ¬ (p : Int) < 0 := by omega
            obtain ⟨h, hhp⟩ := nat_var (p / 2)
            have hp2 : p ≤ 2 * N := by omega
            have HHL : Hid (h ≤ (S.pend i).length) := Lib.hid (by have := HNL.out; omega)
            by_cases ho : p % 2 = 1
            · skip
              have HQ : Hid (IntKind.i64.wrap ((p : Int).tdiv 2) = (h : Int)) := Lib.hid (by rw [Int.tdiv_eq_ediv_of_nonneg (by omega), IntWalk.i64_in _ (by omega)]; omega)
              have hrm : (p : Int).tmod 2 = 1 := by rw [Int.tmod_eq_emod_of_nonneg (by omega)]; omega
              have RM := Lib.hid hrm
              clear hrm
              obtain ⟨va, hva, hca⟩ := HFIX.out i h HI.out HHL.out
              obtain ⟨AT, hAT⟩ : ∃ A, A = atS S i h := ⟨_, rfl⟩
              rw [← hAT] at hva
              have HVA := Lib.hid hva
              have HCA := Lib.hid hca
              have HAT64 : Hid (AT.length = 64) := Lib.hid (by rw [hAT]; exact atS_len S i h (HG.out i HI.out) (HW.out i HI.out) HHL.out)
              have HATL : Hid (AT.length ≤ 64) := Lib.hid (by rw [HAT64.out]; exact Nat.le_refl _)
              have HAT0 := Lib.hid hAT
              have hJl : h < (S.pend i).length := by have := HNL.out; omega
              obtain ⟨LW, hLW⟩ : ∃ A, A = (S.pend i)[h] := ⟨_, rfl⟩
              have HLW : Hid (LW.length = 64) := Lib.hid (by rw [hLW]; exact HW.out i HI.out _ (List.getElem_mem _))
              have HFH : Hid (BsK M w (f h) LW) := Lib.hid (by rw [hLW]; exact H2.out h hJl)
              obtain ⟨bo, of, co, hvo, _, _, hbl, hcell⟩ := H1.out.vs.open (by omega)
              have hV3 := HV.out
              rw [hvo] at hV3
              injection hV3 with e1 e2 e3
              have HV2 : Hid (wf i = .slice (some ⟨bo, of, none⟩) N cap) := Lib.hid (by rw [HV.out, ← e1])
              have HBO : Hid (bo < w.heap.size ∧ w.cell? ⟨bo, of + h, none⟩ = some (f h)) := Lib.hid ⟨hbl, hcell h hJl⟩
              have HPK : Hid (crG S L pk i = LW.take 32 ++ AT.drop 32) := Lib.hid (by
                unfold crG
                rw [hpk, if_pos (by omega), ← hhp, ← hAT, List.getD_eq_getElem?_getD, List.getElem?_eq_getElem hJl, hLW]
                rfl)
              clear e1 e2 e3 hvo hbl hcell hLW hJl
              have hhI : 0 ≤ (h : Int) ∧ (h : Int) < (N : Int) := by omega
              clear hva hca hAT hpk n0 l0 hCI hCL hpb hpc hP hPB hD0 hD hNM hR hpk0 hlo hhi hneg hp hpI ho hhp hp2
              go_wp2_with (first
                | (refine wpList_loadG 42 (.tmp 23) rfl rfl ((.slice (some ⟨g, 0, none⟩) S.n gc)) r_m rfl (by omega) rfl (by kernel_rfl) ?_)
                | (refine wpList_loadG 43 (.tmp 31) rfl rfl ((.slice (some ⟨wb, 0, none⟩) S.n wc)) r_m rfl (by omega) rfl (by kernel_rfl) ?_)
                | (refine wpList_loadG 42 (.tmp 34) rfl rfl (.slice a0 N cap) r_w rfl HWL.out HV.out (by kernel_rfl) ?_)
                | (have hgo := R48; clear hgo
                   refine wpList_binF .rem 3 3 (.tmp 45) (.tmp 47) rfl rfl (fun _ => rfl) (remF _ _ _ (by omega) R48.out) rfl rfl ?_
                   clear R48)
                | (have hgo := R54; clear hgo
                   refine wpList_binF .rem 3 3 (.tmp 50) (.tmp 53) rfl rfl (fun _ => rfl) (remF _ _ _ (by omega) R54.out) rfl rfl ?_
                   clear R54))
              have HE : Below wr.heap.size wr wr.drew := (Below.refl _ _).drew
              have HB : wr.heap.size ≤ wr.drew.heap.size := Nat.le_refl _
              refine wp_region_linf (Below wr.heap.size) (fun w => Below.refl _ w) (fun _ _ _ h k => h.trans k) 13 25 (.rd 0 (.rd 1 (.rd 2 (.rd 3 (.rd 4 (.rd 6 (.rd 7 (.rd 8 (.rd 9 (.br 5 (.wr 10 (.wr 11 (.rd 12 .done))) 10 (.wr 5 (.wr 11 (.rd 12 .done))))))))))))) (by kernel_rfl) (by kernel_rfl) (by decide) (by kernel_rfl) (fun d _ _ _ _ h => by cases d <;> exact h) ?_
              refine linf_pure 66 _ _ (.pointer (some ⟨m2, 0, none⟩)) rfl rfl rfl rfl rfl (fun wx hx => by unfold mkOp; go_simp; all_goals (with_reducible rfl)) ?_
              simp only [Act.put, zA, zB, zC]
              refine linf_pure 67 _ _ (.pointer (some ⟨m2, 0, none⟩)) rfl rfl rfl rfl rfl (fun wx hx => by unfold mkOp; go_simp; all_goals (with_reducible rfl)) ?_
              simp only [Act.put, zA, zB, zC]
              refine linf_pure 68 _ _ (.pointer (some ⟨m2, 0, none⟩)) rfl rfl rfl rfl rfl (fun wx hx => by unfold mkOp; go_simp; all_goals (with_reducible rfl)) ?_
              simp only [Act.put, zA, zB, zC]
              refine linf_pure 69 _ _ ((.slice (some ⟨g2, 0, none⟩) S.n gc2)) rfl rfl rfl rfl rfl (fun wx hx => by exact exec_load_cell _ _ _ _ rfl (by kernel_rfl) ((zrb r_x2 (HE.trans hx)).cell (by omega))) ?_
              simp only [Act.put, zA, zB, zC]
              refine linf_pure 70 _ _ (.int .i64 (i : Int)) rfl rfl rfl rfl rfl (fun wx hx => by unfold mkOp; go_simp; all_goals (with_reducible rfl)) ?_
              simp only [Act.put, zA, zB, zC]
              refine linf_pure 72 _ _ (.pointer (some ⟨m, 0, none⟩)) rfl rfl rfl rfl rfl (fun wx hx => by unfold mkOp; go_simp; all_goals (with_reducible rfl)) ?_
              simp only [Act.put, zA, zB, zC]
              refine linf_pure 73 _ _ (.int .i64 (i : Int)) rfl rfl rfl rfl rfl (fun wx hx => by unfold mkOp; go_simp; all_goals (with_reducible rfl)) ?_
              simp only [Act.put, zA, zB, zC]
              refine linf_pure 74 _ _ (.int .i64 (p : Int)) rfl rfl rfl rfl rfl (fun wx hx => by unfold mkOp; go_simp; all_goals (with_reducible rfl)) ?_
              simp only [Act.put, zA, zB, zC]
              refine linf_pure 75 _ _ (.int .i64 (h : Int)) rfl rfl rfl rfl rfl (fun wx hx => by exact exec_binF _ .quo 3 3 3 _ _ (fun _ => rfl) (quoF _ _ _ (by omega) HQ.out) rfl rfl) ?_
              simp only [Act.put, zA, zB, zC]
              refine ⟨?_, ?_⟩
              · skip
                refine lf_laid 71 (.buildSlice 39 0 #[]) _ 5 #[] 0 rfl rfl rfl rfl rfl (exec_bytV0 _ _ _) rfl (by unfold maxLen; omega) HB ?_
                intro v_71 wf1 o_71 hnw kk HB2
                replace HE := HE.trans (kk.mono HB)
                clear HB hnw kk
                have HB := HB2
                clear HB2
                simp only [Act.put, zA, zB, zC]
                refine linf_fn 76 37 _ _ _ (HCA.out _ (Bw0.trans (HE.mono HBW.out))) rfl rfl rfl rfl Try.func37 (by kernel_rfl) (by kernel_rfl) (by go_simp) ?_
                rintro e wf2 ⟨rfl, rfl⟩
                refine ⟨_, rfl, Below.refl _ _, ?_⟩
                simp only [Act.put, zA, zB, zC]
                refine lf_app 77 (.tmp 71) (.tmp 76) 39 5 v_71 va (.int .u8 0) 1 _ _ _ rfl rfl rfl rfl Try.underlying39 (by kernel_rfl) rfl (by decide) o_71 ((HVA.out _ (Sam.of_below (Bw0.trans (HE.mono HBW.out)))).vs) (fun i hi => rfl) rfl rfl (by have := HATL.out; simp; omega) HB ?_
                intro v_77 wf3 o_77 gk hsm kk HB2
                replace HE := HE.trans kk
                clear HB gk hsm kk o_71 
                have HB := HB2
                clear HB2
                replace o_77 := OwnV.u8 (l := AT) o_77
                simp only [Act.put, zA, zB, zC]
                refine linf_pure 78 _ _ (.pointer (some ⟨g2, i, none⟩)) rfl rfl rfl rfl rfl (fun wx hx => by unfold mkOp; go_simp; all_goals (with_reducible rfl)) ?_
                simp only [Act.put, zA, zB, zC]
                have hs77 := slc_cell o_77.slc
                refine linf_storeW (.store 39 (.tmp 78) (.tmp 77)) _ _ rfl rfl rfl rfl rfl (exec_store_cell _ _ _ _ _ (zrb r_g2 HE) rfl rfl (by kernel_rfl) hs77.1 hs77.2 HGL.out) ?_
                intro w5 hw5
                have k5 : Sam (· = g2) _ w5 := Sam.setW hw5 rfl
                have r_x5 := Sam.row (zrb r_x2 HE) k5 HR2.out.mg
                have hBB : wr.heap.size ≤ _ := HE.size
                have S5 : Sam (fun b => b = g2 ∨ wr.heap.size ≤ b) wr w5 := (Sam.of_below HE).trans (k5.mono fun b _ h => .inl h)
                have hno : ∀ b, v_77.ownBlock = some b → ¬ b = g2 := fun b hb e => by
                  have h1 := (o_77.block b hb).1
                  have h2 := HR2.out.rg.lt
                  omega
                have o_5 := OwnV.sam o_77 k5 hno
                have r_g5 : w5.rowIs g2 39 gc2 (updF gf2 i v_77) := rowIs_setW hw5 (zrb r_g2 HE) fun j hj => rfl
                have Bw5 : Below w.heap.size w w5 := (Bw0.trans (HE.mono HBW.out)).trans (k5.below (fun b hb => by rw [hb]; exact HLB.out.2.1) (Bw0.trans (HE.mono HBW.out)).size)
                have r_m5 := zrb HRM.out Bw5
                have r_w5 := zrb HR0.out.rw Bw5
                rcases o_5.row with ⟨_, hnil⟩ | ⟨bb, cb, fb, hvb, hbb, r_b, hcl, hcm, hfb⟩
                · exfalso
                  have h9 := congrArg List.length hnil
                  rw [u8s_length, HAT64.out] at h9
                  cases h9
                rw [u8s_length, HAT64.out] at hvb hcl
                have HFB : Hid (∀ j (hj : j < AT.length), fb j = .int .u8 ((AT[j]).toNat : Int)) := Lib.hid fun j hj => by
                  rw [hfb j (by rw [u8s_length]; exact hj)]
                  simp [u8s]
                subst hvb
                have HBB : Hid (wr.heap.size ≤ bb ∧ 64 ≤ cb ∧ cb ≤ maxLen) := Lib.hid ⟨hbb, hcl, hcm⟩
                clear k5 hw5 HE HB o_77 o_5 hs77 r_m r_g r_w r_x2 r_g2 HCA hBB hno hbb hcl hcm hfb
                go_wp2_with (first
                  | (have hgo := RM; clear hgo
                     refine wpList_binF .rem 3 3 (.tmp 79) _ rfl rfl (fun _ => rfl) (remF _ _ _ (by omega) RM.out) rfl rfl ?_
                     clear RM))
                have hcl5 := (Below.cell (h := Bw5) (p := ⟨bo, of, none⟩) HBO.out.1)
                have HCL : Hid (w5.cell? ⟨bo, of + h, none⟩ = some (f h)) := Lib.hid ((Below.cell (h := Bw5) (p := ⟨bo, of + h, none⟩) HBO.out.1).trans HBO.out.2)
                clear hcl5
                obtain ⟨v_t, f_t, hrt⟩ := takeB (HFH.out _ (Sam.of_below Bw5)) 32 (by rw [HLW.out]; decide)
                have HE : Below w5.heap.size w5 w5.drew := (Below.refl _ _).drew
                have HB : w5.heap.size ≤ w5.drew.heap.size := Nat.le_refl _
                refine wp_region_linf (Below w5.heap.size) (fun w => Below.refl _ w) (fun _ _ _ h k => h.trans k) 19 25 (.rd 0 (.rd 1 (.rd 2 (.rd 3 (.rd 4 (.rd 5 (.rd 6 (.rd 7 (.rd 8 (.rd 9 (.rd 10 (.rd 11 (.rd 12 (.rd 13 (.rd 14 (.rd 15 (.rd 16 (.rd 17 (.rd 18 .done))))))))))))))))))) (by kernel_rfl) (by kernel_rfl) (by decide) (by kernel_rfl) (fun d _ _ _ _ h => by cases d <;> exact h) ?_
                refine linf_pure 82 _ _ (.pointer (some ⟨m2, 0, none⟩)) rfl rfl rfl rfl rfl (fun wx hx => by unfold mkOp; go_simp; all_goals (with_reducible rfl)) ?_
                simp only [Act.put, zA, zB, zC]
                refine linf_pure 83 _ _ (.pointer (some ⟨m2, 0, none⟩)) rfl rfl rfl rfl rfl (fun wx hx => by unfold mkOp; go_simp; all_goals (with_reducible rfl)) ?_
                simp only [Act.put, zA, zB, zC]
                refine linf_pure 84 _ _ (.pointer (some ⟨m2, 0, none⟩)) rfl rfl rfl rfl rfl (fun wx hx => by unfold mkOp; go_simp; all_goals (with_reducible rfl)) ?_
                simp only [Act.put, zA, zB, zC]
                refine linf_pure 85 _ _ ((.slice (some ⟨g2, 0, none⟩) S.n gc2)) rfl rfl rfl rfl rfl (fun wx hx => by exact exec_load_cell _ _ _ _ rfl (by kernel_rfl) ((zrb r_x5 (HE.trans hx)).cell (by omega))) ?_
                simp only [Act.put, zA, zB, zC]
                refine linf_pure 86 _ _ (.int .i64 (i : Int)) rfl rfl rfl rfl rfl (fun wx hx => by unfold mkOp; go_simp; all_goals (with_reducible rfl)) ?_
                simp only [Act.put, zA, zB, zC]
                refine linf_pure 87 _ _ (.pointer (some ⟨g2, i, none⟩)) rfl rfl rfl rfl rfl (fun wx hx => by unfold mkOp; go_simp; all_goals (with_reducible rfl)) ?_
                simp only [Act.put, zA, zB, zC]
                refine linf_pure 88 _ _ (.slice (some ⟨bb, 0, none⟩) 64 cb) rfl rfl rfl rfl rfl (fun wx hx => by have hc := (zrb r_g5 (HE.trans hx)).cell HGL.out; unfold updF at hc; rw [if_pos rfl] at hc; exact exec_load_cell _ _ _ _ rfl (by kernel_rfl) hc) ?_
                simp only [Act.put, zA, zB, zC]
                refine linf_pure 89 _ _ (.pointer (some ⟨m, 0, none⟩)) rfl rfl rfl rfl rfl (fun wx hx => by unfold mkOp; go_simp; all_goals (with_reducible rfl)) ?_
                simp only [Act.put, zA, zB, zC]
                refine linf_pure 90 _ _ (.pointer (some ⟨m, 0, none⟩)) rfl rfl rfl rfl rfl (fun wx hx => by unfold mkOp; go_simp; all_goals (with_reducible rfl)) ?_
                simp only [Act.put, zA, zB, zC]
                refine linf_pure 91 _ _ (.pointer (some ⟨m, 1, none⟩)) rfl rfl rfl rfl rfl (fun wx hx => by unfold mkOp; go_simp; all_goals (with_reducible rfl)) ?_
                simp only [Act.put, zA, zB, zC]
                refine linf_pure 92 _ _ ((.slice (some ⟨wb, 0, none⟩) S.n wc)) rfl rfl rfl rfl rfl (fun wx hx => by exact exec_load_cell _ _ _ _ rfl (by kernel_rfl) ((zrb r_m5 (HE.trans hx)).cell (by omega))) ?_
                simp only [Act.put, zA, zB, zC]
                refine linf_pure 93 _ _ (.int .i64 (i : Int)) rfl rfl rfl rfl rfl (fun wx hx => by unfold mkOp; go_simp; all_goals (with_reducible rfl)) ?_
                simp only [Act.put, zA, zB, zC]
                refine linf_pure 94 _ _ (.pointer (some ⟨wb, i, none⟩)) rfl rfl rfl rfl rfl (fun wx hx => by unfold mkOp; go_simp; all_goals (with_reducible rfl)) ?_
                simp only [Act.put, zA, zB, zC]
                refine linf_pure 95 _ _ (.slice (some ⟨bo, of, none⟩) N cap) rfl rfl rfl rfl rfl (fun wx hx => by rw [← HV2.out]; exact exec_load_cell _ _ _ _ rfl (by kernel_rfl) ((zrb r_w5 (HE.trans hx)).cell HWL.out)) ?_
                simp only [Act.put, zA, zB, zC]
                refine linf_pure 96 _ _ (.int .i64 (p : Int)) rfl rfl rfl rfl rfl (fun wx hx => by unfold mkOp; go_simp; all_goals (with_reducible rfl)) ?_
                simp only [Act.put, zA, zB, zC]
                refine linf_pure 97 _ _ (.int .i64 (h : Int)) rfl rfl rfl rfl rfl (fun wx hx => by exact exec_binF _ .quo 3 3 3 _ _ (fun _ => rfl) (quoF _ _ _ (by omega) HQ.out) rfl rfl) ?_
                simp only [Act.put, zA, zB, zC]
                refine linf_pure 98 _ _ (.pointer (some ⟨bo, of + h, none⟩)) rfl rfl rfl rfl rfl (fun wx hx => by unfold mkOp; go_simp; all_goals (with_reducible rfl)) ?_
                simp only [Act.put, zA, zB, zC]
                refine linf_pure 99 _ _ (f h) rfl rfl rfl rfl rfl (fun wx hx => by exact exec_load_cell _ _ _ _ rfl (by kernel_rfl) (((HE.trans hx).cell (p := ⟨bo, of + h, none⟩) (Nat.lt_of_lt_of_le HBO.out.1 (HGS.out _ Bw5))).trans HCL.out)) ?_
                simp only [Act.put, zA, zB, zC]
                refine linf_pure 100 _ _ (v_t) rfl rfl rfl rfl rfl (fun wx hx => by exact hrt _ _ _ _ _ rfl rfl) ?_
                simp only [Act.put, zA, zB, zC]
                refine linf_copy 101 (.tmp 88) (.tmp 100) rfl rfl rfl rfl (zrb r_b HE) (zfb f_t HE) rfl rfl (by have := HBB.out; omega) 32 (by rw [List.length_take, HLW.out]; rfl) ?_
                intro v_z w6 r_b6 gk6
                simp only [Act.put, zA, zB, zC]
                have k6 : Sam (fun b => b = g2 ∨ wr.heap.size ≤ b) w5 w6 := (Sam.of_below HE).trans (Sam.of_grown gk6 fun b hb => by cases hb; exact .inr HBB.out.1)
                have S6 := S5.trans k6
                have r_g6 := (zrb r_g5 HE).of_block (gk6.block g2 (zrb r_g5 HE).lt (fun e => by have h9 := HBB.out.1; have h8 := HR2.out.rg.lt; cases e; omega))
                have r_x6 := Sam.row r_x5 k6 (fun e => by have h8 := r_x5.lt; have h7 := HNB.out m2 (.inr (.inl rfl)); rcases e with e | e; exact HR2.out.mg e; omega)
                have hv6 : BsK (fun b => M b ∨ b = m2 ∨ b = g2 ∨ b = wb2) w6 (.slice (some ⟨bb, 0, none⟩) 64 cb) (crG S L pk i) := by
                  rw [HPK.out]
                  have hl6 : (LW.take 32 ++ AT.drop 32).length = 64 := by rw [List.length_append, List.length_take, List.length_drop, HLW.out, HAT64.out]; rfl
                  have hk6 := BsK.of_row (M := (fun b => M b ∨ b = m2 ∨ b = g2 ∨ b = wb2)) (l := LW.take 32 ++ AT.drop 32) r_b6 (by rw [hl6]; exact HBB.out.2.1) HBB.out.2.2 (fun j hj => ?_) (fun hb => by have h9 := HNB.out bb hb; have h8 := HBB.out.1; omega)
                  · rw [hl6] at hk6
                    exact hk6
                  · rw [hl6] at hj
                    unfold putN bytesAt
                    by_cases hj2 : j < 32
                    · rw [if_pos (by omega), List.getElem_append_left (by rw [List.length_take, HLW.out]; omega), Nat.sub_zero, List.getD_eq_getElem?_getD, List.getElem?_eq_getElem (by rw [List.length_take, HLW.out]; omega)]
                      rfl
                    · rw [if_neg (by omega), HFB.out j (by rw [HAT64.out]; exact hj)]
                      rw [List.getElem_append_right (by rw [List.length_take, HLW.out]; omega)]
                      simp only [List.getElem_drop, List.length_take, HLW.out]
                      congr 3
                      simp only [show min 32 64 = 32 from rfl, show 32 + (j - 32) = j by omega]
                have hr6 := HR2.out.gset2 (Nat.le_refl _) S6 r_g6 hv6
                rw [crI_step S L pk i _ rfl] at hr6
                have Bw6 : Below w.heap.size w w6 := Bw0.trans (S6.below (fun b hb => by rcases hb with hb | hb; rw [hb]; exact HLB.out.2.1; have := HBW.out; omega) HBW.out)
                have HR6 := Lib.hid hr6
                clear hr6 hv6 r_g6 r_b6 gk6 k6 S6 S5 HE HB r_x5 r_g5 r_b r_m5 r_w5 f_t hrt
                go_wp2
                go_roundw
                case rel => exact ⟨i + 1, HI.out, HCS.out, by rw [HI1.out], ⟨gc2, wc2, _, _, r_x6, HR6.out⟩, Bw6⟩
                case measure => (have := HI.out; have := HI1.out; simp [intOf]; try omega)
              · skip
                refine linf_fn 76 37 _ _ _ (HCA.out _ (Bw0.trans (HE.mono HBW.out))) rfl rfl rfl rfl Try.func37 (by kernel_rfl) (by kernel_rfl) (by go_simp) ?_
                rintro e wf1 ⟨rfl, rfl⟩
                refine ⟨_, rfl, Below.refl _ _, ?_⟩
                simp only [Act.put, zA, zB, zC]
                refine lf_laid 71 (.buildSlice 39 0 #[]) _ 5 #[] 0 rfl rfl rfl rfl rfl (exec_bytV0 _ _ _) rfl (by unfold maxLen; omega) HB ?_
                intro v_71 wf2 o_71 hnw kk HB2
                replace HE := HE.trans (kk.mono HB)
                clear HB hnw kk
                have HB := HB2
                clear HB2
                simp only [Act.put, zA, zB, zC]
                refine lf_app 77 (.tmp 71) (.tmp 76) 39 5 v_71 va (.int .u8 0) 1 _ _ _ rfl rfl rfl rfl Try.underlying39 (by kernel_rfl) rfl (by decide) o_71 ((HVA.out _ (Sam.of_below (Bw0.trans (HE.mono HBW.out)))).vs) (fun i hi => rfl) rfl rfl (by have := HATL.out; simp; omega) HB ?_
                intro v_77 wf3 o_77 gk hsm kk HB2
                replace HE := HE.trans kk
                clear HB gk hsm kk o_71 
                have HB := HB2
                clear HB2
                replace o_77 := OwnV.u8 (l := AT) o_77
                simp only [Act.put, zA, zB, zC]
                refine linf_pure 78 _ _ (.pointer (some ⟨g2, i, none⟩)) rfl rfl rfl rfl rfl (fun wx hx => by unfold mkOp; go_simp; all_goals (with_reducible rfl)) ?_
                simp only [Act.put, zA, zB, zC]
                have hs77 := slc_cell o_77.slc
                refine linf_storeW (.store 39 (.tmp 78) (.tmp 77)) _ _ rfl rfl rfl rfl rfl (exec_store_cell _ _ _ _ _ (zrb r_g2 HE) rfl rfl (by kernel_rfl) hs77.1 hs77.2 HGL.out) ?_
                intro w5 hw5
                have k5 : Sam (· = g2) _ w5 := Sam.setW hw5 rfl
                have r_x5 := Sam.row (zrb r_x2 HE) k5 HR2.out.mg
                have hBB : wr.heap.size ≤ _ := HE.size
                have S5 : Sam (fun b => b = g2 ∨ wr.heap.size ≤ b) wr w5 := (Sam.of_below HE).trans (k5.mono fun b _ h => .inl h)
                have hno : ∀ b, v_77.ownBlock = some b → ¬ b = g2 := fun b hb e => by
                  have h1 := (o_77.block b hb).1
                  have h2 := HR2.out.rg.lt
                  omega
                have o_5 := OwnV.sam o_77 k5 hno
                have r_g5 : w5.rowIs g2 39 gc2 (updF gf2 i v_77) := rowIs_setW hw5 (zrb r_g2 HE) fun j hj => rfl
                have Bw5 : Below w.heap.size w w5 := (Bw0.trans (HE.mono HBW.out)).trans (k5.below (fun b hb => by rw [hb]; exact HLB.out.2.1) (Bw0.trans (HE.mono HBW.out)).size)
                have r_m5 := zrb HRM.out Bw5
                have r_w5 := zrb HR0.out.rw Bw5
                rcases o_5.row with ⟨_, hnil⟩ | ⟨bb, cb, fb, hvb, hbb, r_b, hcl, hcm, hfb⟩
                · exfalso
                  have h9 := congrArg List.length hnil
                  rw [u8s_length, HAT64.out] at h9
                  cases h9
                rw [u8s_length, HAT64.out] at hvb hcl
                have HFB : Hid (∀ j (hj : j < AT.length), fb j = .int .u8 ((AT[j]).toNat : Int)) := Lib.hid fun j hj => by
                  rw [hfb j (by rw [u8s_length]; exact hj)]
                  simp [u8s]
                subst hvb
                have HBB : Hid (wr.heap.size ≤ bb ∧ 64 ≤ cb ∧ cb ≤ maxLen) := Lib.hid ⟨hbb, hcl, hcm⟩
                clear k5 hw5 HE HB o_77 o_5 hs77 r_m r_g r_w r_x2 r_g2 HCA hBB hno hbb hcl hcm hfb
                go_wp2_with (first
                  | (have hgo := RM; clear hgo
                     refine wpList_binF .rem 3 3 (.tmp 79) _ rfl rfl (fun _ => rfl) (remF _ _ _ (by omega) RM.out) rfl rfl ?_
                     clear RM))
                have hcl5 := (Below.cell (h := Bw5) (p := ⟨bo, of, none⟩) HBO.out.1)
                have HCL : Hid (w5.cell? ⟨bo, of + h, none⟩ = some (f h)) := Lib.hid ((Below.cell (h := Bw5) (p := ⟨bo, of + h, none⟩) HBO.out.1).trans HBO.out.2)
                clear hcl5
                obtain ⟨v_t, f_t, hrt⟩ := takeB (HFH.out _ (Sam.of_below Bw5)) 32 (by rw [HLW.out]; decide)
                have HE : Below w5.heap.size w5 w5.drew := (Below.refl _ _).drew
                have HB : w5.heap.size ≤ w5.drew.heap.size := Nat.le_refl _
                refine wp_region_linf (Below w5.heap.size) (fun w => Below.refl _ w) (fun _ _ _ h k => h.trans k) 19 25 (.rd 0 (.rd 1 (.rd 2 (.rd 3 (.rd 4 (.rd 5 (.rd 6 (.rd 7 (.rd 8 (.rd 9 (.rd 10 (.rd 11 (.rd 12 (.rd 13 (.rd 14 (.rd 15 (.rd 16 (.rd 17 (.rd 18 .done))))))))))))))))))) (by kernel_rfl) (by kernel_rfl) (by decide) (by kernel_rfl) (fun d _ _ _ _ h => by cases d <;> exact h) ?_
                refine linf_pure 82 _ _ (.pointer (some ⟨m2, 0, none⟩)) rfl rfl rfl rfl rfl (fun wx hx => by unfold mkOp; go_simp; all_goals (with_reducible rfl)) ?_
                simp only [Act.put, zA, zB, zC]
                refine linf_pure 83 _ _ (.pointer (some ⟨m2, 0, none⟩)) rfl rfl rfl rfl rfl (fun wx hx => by unfold mkOp; go_simp; all_goals (with_reducible rfl)) ?_
                simp only [Act.put, zA, zB, zC]
                refine linf_pure 84 _ _ (.pointer (some ⟨m2, 0, none⟩)) rfl rfl rfl rfl rfl (fun wx hx => by unfold mkOp; go_simp; all_goals (with_reducible rfl)) ?_
                simp only [Act.put, zA, zB, zC]
                refine linf_pure 85 _ _ ((.slice (some ⟨g2, 0, none⟩) S.n gc2)) rfl rfl rfl rfl rfl (fun wx hx => by exact exec_load_cell _ _ _ _ rfl (by kernel_rfl) ((zrb r_x5 (HE.trans hx)).cell (by omega))) ?_
                simp only [Act.put, zA, zB, zC]
                refine linf_pure 86 _ _ (.int .i64 (i : Int)) rfl rfl rfl rfl rfl (fun wx hx => by unfold mkOp; go_simp; all_goals (with_reducible rfl)) ?_
                simp only [Act.put, zA, zB, zC]
                refine linf_pure 87 _ _ (.pointer (some ⟨g2, i, none⟩)) rfl rfl rfl rfl rfl (fun wx hx => by unfold mkOp; go_simp; all_goals (with_reducible rfl)) ?_
                simp only [Act.put, zA, zB, zC]
                refine linf_pure 88 _ _ (.slice (some ⟨bb, 0, none⟩) 64 cb) rfl rfl rfl rfl rfl (fun wx hx => by have hc := (zrb r_g5 (HE.trans hx)).cell HGL.out; unfold updF at hc; rw [if_pos rfl] at hc; exact exec_load_cell _ _ _ _ rfl (by kernel_rfl) hc) ?_
                simp only [Act.put, zA, zB, zC]
                refine linf_pure 89 _ _ (.pointer (some ⟨m, 0, none⟩)) rfl rfl rfl rfl rfl (fun wx hx => by unfold mkOp; go_simp; all_goals (with_reducible rfl)) ?_
                simp only [Act.put, zA, zB, zC]
                refine linf_pure 90 _ _ (.pointer (some ⟨m, 0, none⟩)) rfl rfl rfl rfl rfl (fun wx hx => by unfold mkOp; go_simp; all_goals (with_reducible rfl)) ?_
                simp only [Act.put, zA, zB, zC]
                refine linf_pure 91 _ _ (.pointer (some ⟨m, 1, none⟩)) rfl rfl rfl rfl rfl (fun wx hx => by unfold mkOp; go_simp; all_goals (with_reducible rfl)) ?_
                simp only [Act.put, zA, zB, zC]
                refine linf_pure 92 _ _ ((.slice (some ⟨wb, 0, none⟩) S.n wc)) rfl rfl rfl rfl rfl (fun wx hx => by exact exec_load_cell _ _ _ _ rfl (by kernel_rfl) ((zrb r_m5 (HE.trans hx)).cell (by omega))) ?_
                simp only [Act.put, zA, zB, zC]
                refine linf_pure 93 _ _ (.int .i64 (i : Int)) rfl rfl rfl rfl rfl (fun wx hx => by unfold mkOp; go_simp; all_goals (with_reducible rfl)) ?_
                simp only [Act.put, zA, zB, zC]
                refine linf_pure 94 _ _ (.pointer (some ⟨wb, i, none⟩)) rfl rfl rfl rfl rfl (fun wx hx => by unfold mkOp; go_simp; all_goals (with_reducible rfl)) ?_
                simp only [Act.put, zA, zB, zC]
                refine linf_pure 95 _ _ (.slice (some ⟨bo, of, none⟩) N cap) rfl rfl rfl rfl rfl (fun wx hx => by rw [← HV2.out]; exact exec_load_cell _ _ _ _ rfl (by kernel_rfl) ((zrb r_w5 (HE.trans hx)).cell HWL.out)) ?_
                simp only [Act.put, zA, zB, zC]
                refine linf_pure 96 _ _ (.int .i64 (p : Int)) rfl rfl rfl rfl rfl (fun wx hx => by unfold mkOp; go_simp; all_goals (with_reducible rfl)) ?_
                simp only [Act.put, zA, zB, zC]
                refine linf_pure 97 _ _ (.int .i64 (h : Int)) rfl rfl rfl rfl rfl (fun wx hx => by exact exec_binF _ .quo 3 3 3 _ _ (fun _ => rfl) (quoF _ _ _ (by omega) HQ.out) rfl rfl) ?_
                simp only [Act.put, zA, zB, zC]
                refine linf_pure 98 _ _ (.pointer (some ⟨bo, of + h, none⟩)) rfl rfl rfl rfl rfl (fun wx hx => by unfold mkOp; go_simp; all_goals (with_reducible rfl)) ?_
                simp only [Act.put, zA, zB, zC]
                refine linf_pure 99 _ _ (f h) rfl rfl rfl rfl rfl (fun wx hx => by exact exec_load_cell _ _ _ _ rfl (by kernel_rfl) (((HE.trans hx).cell (p := ⟨bo, of + h, none⟩) (Nat.lt_of_lt_of_le HBO.out.1 (HGS.out _ Bw5))).trans HCL.out)) ?_
                simp only [Act.put, zA, zB, zC]
                refine linf_pure 100 _ _ (v_t) rfl rfl rfl rfl rfl (fun wx hx => by exact hrt _ _ _ _ _ rfl rfl) ?_
                simp only [Act.put, zA, zB, zC]
                refine linf_copy 101 (.tmp 88) (.tmp 100) rfl rfl rfl rfl (zrb r_b HE) (zfb f_t HE) rfl rfl (by have := HBB.out; omega) 32 (by rw [List.length_take, HLW.out]; rfl) ?_
                intro v_z w6 r_b6 gk6
                simp only [Act.put, zA, zB, zC]
                have k6 : Sam (fun b => b = g2 ∨ wr.heap.size ≤ b) w5 w6 := (Sam.of_below HE).trans (Sam.of_grown gk6 fun b hb => by cases hb; exact .inr HBB.out.1)
                have S6 := S5.trans k6
                have r_g6 := (zrb r_g5 HE).of_block (gk6.block g2 (zrb r_g5 HE).lt (fun e => by have h9 := HBB.out.1; have h8 := HR2.out.rg.lt; cases e; omega))
                have r_x6 := Sam.row r_x5 k6 (fun e => by have h8 := r_x5.lt; have h7 := HNB.out m2 (.inr (.inl rfl)); rcases e with e | e; exact HR2.out.mg e; omega)
                have hv6 : BsK (fun b => M b ∨ b = m2 ∨ b = g2 ∨ b = wb2) w6 (.slice (some ⟨bb, 0, none⟩) 64 cb) (crG S L pk i) := by
                  rw [HPK.out]
                  have hl6 : (LW.take 32 ++ AT.drop 32).length = 64 := by rw [List.length_append, List.length_take, List.length_drop, HLW.out, HAT64.out]; rfl
                  have hk6 := BsK.of_row (M := (fun b => M b ∨ b = m2 ∨ b = g2 ∨ b = wb2)) (l := LW.take 32 ++ AT.drop 32) r_b6 (by rw [hl6]; exact HBB.out.2.1) HBB.out.2.2 (fun j hj => ?_) (fun hb => by have h9 := HNB.out bb hb; have h8 := HBB.out.1; omega)
                  · rw [hl6] at hk6
                    exact hk6
                  · rw [hl6] at hj
                    unfold putN bytesAt
                    by_cases hj2 : j < 32
                    · rw [if_pos (by omega), List.getElem_append_left (by rw [List.length_take, HLW.out]; omega), Nat.sub_zero, List.getD_eq_getElem?_getD, List.getElem?_eq_getElem (by rw [List.length_take, HLW.out]; omega)]
                      rfl
                    · rw [if_neg (by omega), HFB.out j (by rw [HAT64.out]; exact hj)]
                      rw [List.getElem_append_right (by rw [List.length_take, HLW.out]; omega)]
                      simp only [List.getElem_drop, List.length_take, HLW.out]
                      congr 3
                      simp only [show min 32 64 = 32 from rfl, show 32 + (j - 32) = j by omega]
                have hr6 := HR2.out.gset2 (Nat.le_refl _) S6 r_g6 hv6
                rw [crI_step S L pk i _ rfl] at hr6
                have Bw6 : Below w.heap.size w w6 := Bw0.trans (S6.below (fun b hb => by rcases hb with hb | hb; rw [hb]; exact HLB.out.2.1; have := HBW.out; omega) HBW.out)
                have HR6 := Lib.hid hr6
                clear hr6 hv6 r_g6 r_b6 gk6 k6 S6 S5 HE HB r_x5 r_g5 r_b r_m5 r_w5 f_t hrt
                go_wp2
                go_roundw
                case rel => exact ⟨i + 1, HI.out, HCS.out, by rw [HI1.out], ⟨gc2, wc2, _, _, r_x6, HR6.out⟩, Bw6⟩
                case measure => (have := HI.out; have := HI1.out; simp [intOf]; try omega)
            · skip
              have HQ : Hid (IntKind.i64.wrap ((p : Int).tdiv 2) = (h : Int)) := Lib.hid (by rw [Int.tdiv_eq_ediv_of_nonneg (by omega), IntWalk.i64_in _ (by omega)]; omega)
              have hrm : (p : Int).tmod 2 = 0 := by rw [Int.tmod_eq_emod_of_nonneg (by omega)]; omega
              have RM := Lib.hid hrm
              clear hrm
              obtain ⟨va, hva, hca⟩ := HFIX.out i h HI.out HHL.out
              obtain ⟨AT, hAT⟩ : ∃ A, A = atS S i h := ⟨_, rfl⟩
              rw [← hAT] at hva
              have HVA := Lib.hid hva
              have HCA := Lib.hid hca
              have HAT64 : Hid (AT.length = 64) := Lib.hid (by rw [hAT]; exact atS_len S i h (HG.out i HI.out) (HW.out i HI.out) HHL.out)
              have HATL : Hid (AT.length ≤ 64) := Lib.hid (by rw [HAT64.out]; exact Nat.le_refl _)
              have HAT0 := Lib.hid hAT
              have HPK : Hid (crG S L pk i = AT) := Lib.hid (by unfold crG; rw [hpk, if_neg (by omega), ← hhp]; exact hAT.symm)
              clear hva hca hAT hpk n0 l0 hCI hCL hpb hpc hP hPB hD0 hD hNM hR hpk0 hlo hhi hneg hp hpI ho hhp hp2
              go_wp2_with (first
                | (refine wpList_loadG 42 (.tmp 23) rfl rfl ((.slice (some ⟨g, 0, none⟩) S.n gc)) r_m rfl (by omega) rfl (by kernel_rfl) ?_)
                | (refine wpList_loadG 43 (.tmp 31) rfl rfl ((.slice (some ⟨wb, 0, none⟩) S.n wc)) r_m rfl (by omega) rfl (by kernel_rfl) ?_)
                | (refine wpList_loadG 42 (.tmp 34) rfl rfl (.slice a0 N cap) r_w rfl HWL.out HV.out (by kernel_rfl) ?_)
                | (have hgo := R48; clear hgo
                   refine wpList_binF .rem 3 3 (.tmp 45) (.tmp 47) rfl rfl (fun _ => rfl) (remF _ _ _ (by omega) R48.out) rfl rfl ?_
                   clear R48)
                | (have hgo := R54; clear hgo
                   refine wpList_binF .rem 3 3 (.tmp 50) (.tmp 53) rfl rfl (fun _ => rfl) (remF _ _ _ (by omega) R54.out) rfl rfl ?_
                   clear R54))
              have HE : Below wr.heap.size wr wr.drew := (Below.refl _ _).drew
              have HB : wr.heap.size ≤ wr.drew.heap.size := Nat.le_refl _
              refine wp_region_linf (Below wr.heap.size) (fun w => Below.refl _ w) (fun _ _ _ h k => h.trans k) 13 25 (.rd 0 (.rd 1 (.rd 2 (.rd 3 (.rd 4 (.rd 6 (.rd 7 (.rd 8 (.rd 9 (.br 5 (.wr 10 (.wr 11 (.rd 12 .done))) 10 (.wr 5 (.wr 11 (.rd 12 .done))))))))))))) (by kernel_rfl) (by kernel_rfl) (by decide) (by kernel_rfl) (fun d _ _ _ _ h => by cases d <;> exact h) ?_
              refine linf_pure 66 _ _ (.pointer (some ⟨m2, 0, none⟩)) rfl rfl rfl rfl rfl (fun wx hx => by unfold mkOp; go_simp; all_goals (with_reducible rfl)) ?_
              simp only [Act.put, zA, zB, zC]
              refine linf_pure 67 _ _ (.pointer (some ⟨m2, 0, none⟩)) rfl rfl rfl rfl rfl (fun wx hx => by unfold mkOp; go_simp; all_goals (with_reducible rfl)) ?_
              simp only [Act.put, zA, zB, zC]
              refine linf_pure 68 _ _ (.pointer (some ⟨m2, 0, none⟩)) rfl rfl rfl rfl rfl (fun wx hx => by unfold mkOp; go_simp; all_goals (with_reducible rfl)) ?_
              simp only [Act.put, zA, zB, zC]
              refine linf_pure 69 _ _ ((.slice (some ⟨g2, 0, none⟩) S.n gc2)) rfl rfl rfl rfl rfl (fun wx hx => by exact exec_load_cell _ _ _ _ rfl (by kernel_rfl) ((zrb r_x2 (HE.trans hx)).cell (by omega))) ?_
              simp only [Act.put, zA, zB, zC]
              refine linf_pure 70 _ _ (.int .i64 (i : Int)) rfl rfl rfl rfl rfl (fun wx hx => by unfold mkOp; go_simp; all_goals (with_reducible rfl)) ?_
              simp only [Act.put, zA, zB, zC]
              refine linf_pure 72 _ _ (.pointer (some ⟨m, 0, none⟩)) rfl rfl rfl rfl rfl (fun wx hx => by unfold mkOp; go_simp; all_goals (with_reducible rfl)) ?_
              simp only [Act.put, zA, zB, zC]
              refine linf_pure 73 _ _ (.int .i64 (i : Int)) rfl rfl rfl rfl rfl (fun wx hx => by unfold mkOp; go_simp; all_goals (with_reducible rfl)) ?_
              simp only [Act.put, zA, zB, zC]
              refine linf_pure 74 _ _ (.int .i64 (p : Int)) rfl rfl rfl rfl rfl (fun wx hx => by unfold mkOp; go_simp; all_goals (with_reducible rfl)) ?_
              simp only [Act.put, zA, zB, zC]
              refine linf_pure 75 _ _ (.int .i64 (h : Int)) rfl rfl rfl rfl rfl (fun wx hx => by exact exec_binF _ .quo 3 3 3 _ _ (fun _ => rfl) (quoF _ _ _ (by omega) HQ.out) rfl rfl) ?_
              simp only [Act.put, zA, zB, zC]
              refine ⟨?_, ?_⟩
              · skip
                refine lf_laid 71 (.buildSlice 39 0 #[]) _ 5 #[] 0 rfl rfl rfl rfl rfl (exec_bytV0 _ _ _) rfl (by unfold maxLen; omega) HB ?_
                intro v_71 wf1 o_71 hnw kk HB2
                replace HE := HE.trans (kk.mono HB)
                clear HB hnw kk
                have HB := HB2
                clear HB2
                simp only [Act.put, zA, zB, zC]
                refine linf_fn 76 37 _ _ _ (HCA.out _ (Bw0.trans (HE.mono HBW.out))) rfl rfl rfl rfl Try.func37 (by kernel_rfl) (by kernel_rfl) (by go_simp) ?_
                rintro e wf2 ⟨rfl, rfl⟩
                refine ⟨_, rfl, Below.refl _ _, ?_⟩
                simp only [Act.put, zA, zB, zC]
                refine lf_app 77 (.tmp 71) (.tmp 76) 39 5 v_71 va (.int .u8 0) 1 _ _ _ rfl rfl rfl rfl Try.underlying39 (by kernel_rfl) rfl (by decide) o_71 ((HVA.out _ (Sam.of_below (Bw0.trans (HE.mono HBW.out)))).vs) (fun i hi => rfl) rfl rfl (by have := HATL.out; simp; omega) HB ?_
                intro v_77 wf3 o_77 gk hsm kk HB2
                replace HE := HE.trans kk
                clear HB gk hsm kk o_71 
                have HB := HB2
                clear HB2
                replace o_77 := OwnV.u8 (l := AT) o_77
                simp only [Act.put, zA, zB, zC]
                refine linf_pure 78 _ _ (.pointer (some ⟨g2, i, none⟩)) rfl rfl rfl rfl rfl (fun wx hx => by unfold mkOp; go_simp; all_goals (with_reducible rfl)) ?_
                simp only [Act.put, zA, zB, zC]
                have hs77 := slc_cell o_77.slc
                refine linf_storeW (.store 39 (.tmp 78) (.tmp 77)) _ _ rfl rfl rfl rfl rfl (exec_store_cell _ _ _ _ _ (zrb r_g2 HE) rfl rfl (by kernel_rfl) hs77.1 hs77.2 HGL.out) ?_
                intro w5 hw5
                have k5 : Sam (· = g2) _ w5 := Sam.setW hw5 rfl
                have r_x5 := Sam.row (zrb r_x2 HE) k5 HR2.out.mg
                have hr5 := HR2.out.gsetW HE HI.out (BsK.own o_77.owns HNB.out) hw5
                rw [crI_step S L pk i AT HPK.out] at hr5
                have HR5 := Lib.hid hr5
                have Bw5 : Below w.heap.size w w5 := (Bw0.trans (HE.mono HBW.out)).trans (k5.below (fun b hb => by rw [hb]; exact HLB.out.2.1) (Bw0.trans (HE.mono HBW.out)).size)
                clear hr5 k5 hw5 HE HB o_77 hs77 r_m r_g r_w r_x2 r_g2 HCA
                go_wp2_with (first
                  | (have hgo := RM; clear hgo
                     refine wpList_binF .rem 3 3 (.tmp 79) _ rfl rfl (fun _ => rfl) (remF _ _ _ (by omega) RM.out) rfl rfl ?_
                     clear RM))
                go_roundw
                case rel => exact ⟨i + 1, HI.out, HCS.out, by rw [HI1.out], ⟨gc2, wc2, _, _, r_x5, HR5.out⟩, Bw5⟩
                case measure => (have := HI.out; have := HI1.out; simp [intOf]; try omega)
              · skip
                refine linf_fn 76 37 _ _ _ (HCA.out _ (Bw0.trans (HE.mono HBW.out))) rfl rfl rfl rfl Try.func37 (by kernel_rfl) (by kernel_rfl) (by go_simp) ?_
                rintro e wf1 ⟨rfl, rfl⟩
                refine ⟨_, rfl, Below.refl _ _, ?_⟩
                simp only [Act.put, zA, zB, zC]
                refine lf_laid 71 (.buildSlice 39 0 #[]) _ 5 #[] 0 rfl rfl rfl rfl rfl (exec_bytV0 _ _ _) rfl (by unfold maxLen; omega) HB ?_
                intro v_71 wf2 o_71 hnw kk HB2
                replace HE := HE.trans (kk.mono HB)
                clear HB hnw kk
                have HB := HB2
                clear HB2
                simp only [Act.put, zA, zB, zC]
                refine lf_app 77 (.tmp 71) (.tmp 76) 39 5 v_71 va (.int .u8 0) 1 _ _ _ rfl rfl rfl rfl Try.underlying39 (by kernel_rfl) rfl (by decide) o_71 ((HVA.out _ (Sam.of_below (Bw0.trans (HE.mono HBW.out)))).vs) (fun i hi => rfl) rfl rfl (by have := HATL.out; simp; omega) HB ?_
                intro v_77 wf3 o_77 gk hsm kk HB2
                replace HE := HE.trans kk
                clear HB gk hsm kk o_71 
                have HB := HB2
                clear HB2
                replace o_77 := OwnV.u8 (l := AT) o_77
                simp only [Act.put, zA, zB, zC]
                refine linf_pure 78 _ _ (.pointer (some ⟨g2, i, none⟩)) rfl rfl rfl rfl rfl (fun wx hx => by unfold mkOp; go_simp; all_goals (with_reducible rfl)) ?_
                simp only [Act.put, zA, zB, zC]
                have hs77 := slc_cell o_77.slc
                refine linf_storeW (.store 39 (.tmp 78) (.tmp 77)) _ _ rfl rfl rfl rfl rfl (exec_store_cell _ _ _ _ _ (zrb r_g2 HE) rfl rfl (by kernel_rfl) hs77.1 hs77.2 HGL.out) ?_
                intro w5 hw5
                have k5 : Sam (· = g2) _ w5 := Sam.setW hw5 rfl
                have r_x5 := Sam.row (zrb r_x2 HE) k5 HR2.out.mg
                have hr5 := HR2.out.gsetW HE HI.out (BsK.own o_77.owns HNB.out) hw5
                rw [crI_step S L pk i AT HPK.out] at hr5
                have HR5 := Lib.hid hr5
                have Bw5 : Below w.heap.size w w5 := (Bw0.trans (HE.mono HBW.out)).trans (k5.below (fun b hb => by rw [hb]; exact HLB.out.2.1) (Bw0.trans (HE.mono HBW.out)).size)
                clear hr5 k5 hw5 HE HB o_77 hs77 r_m r_g r_w r_x2 r_g2 HCA
                go_wp2_with (first
                  | (have hgo := RM; clear hgo
                     refine wpList_binF .rem 3 3 (.tmp 79) _ rfl rfl (fun _ => rfl) (remF _ _ _ (by omega) RM.out) rfl rfl ?_
                     clear RM))
                go_roundw
                case rel => exact ⟨i + 1, HI.out, HCS.out, by rw [HI1.out], ⟨gc2, wc2, _, _, r_x5, HR5.out⟩, Bw5⟩
                case measure => (have := HI.out; have := HI1.out; simp [intOf]; try omega)
    · obtain rfl : i = S.n := by omega
      have HD := Lib.hid hd
      clear hi hlt hd
      go_wp2_with (first
        | (refine wpList_loadG 42 (.tmp 23) rfl rfl ((.slice (some ⟨g, 0, none⟩) S.n gc)) r_m rfl (by omega) rfl (by kernel_rfl) ?_))
      go_ret
      exact ⟨m2, g2, wb2, rfl, HLB.out.1, HLB.out.2.1, HLB.out.2.2, HD.out, Bw0⟩
end Go.Proofs.Ytpilfjdhpahphaa

/- From the reading of an argument to the words of the contracts: a slice of bytes, a slice of slices of bytes. -/
set_option linter.unusedSimpArgs false
set_option linter.unusedVariables false
namespace Go.Proofs.Ytpilfjdhpahphaa
open Go.ChangeShapes Go.WideShapes Go.ChangeAt Go.RowKit Go.Deep

end Go.Proofs.Ytpilfjdhpahphaa

/- From the reading of an argument to the words of the contracts: a row of missivelaw15.Step. -/
set_option linter.unusedSimpArgs false
set_option linter.unusedVariables false
namespace Go.Proofs.Ytpilfjdhpahphaa
open Go.ChangeShapes Go.WideShapes Go.ChangeAt Go.RowKit Go.Deep

structure Sp where
  k : Int
  m : Int
  n : Int
/-- One lies at p. -/
def SpAt (w : World) (p : Addr) (x : Sp) : Prop :=
  p.block < w.heap.size ∧ (w.cell? (p.add 0) = some (.int .i64 x.k) ∧ (Lit.int .i64 x.k).wf = true) ∧ (w.cell? (p.add 1) = some (.int .i64 x.m) ∧ (Lit.int .i64 x.m).wf = true) ∧ (w.cell? (p.add 2) = some (.int .i64 x.n) ∧ (Lit.int .i64 x.n).wf = true)
def Sps (w : World) (v : Value) (L : List Sp) : Prop :=
  ∃ (a : Option Addr) (cap : Nat), v = .slice a L.length cap ∧ L.length ≤ cap ∧ cap ≤ maxLen ∧ (a = none → cap = 0) ∧ ∀ x, a = some x → ∀ i (h : i < L.length), SpAt w (x.add (i * 3)) L[i]
theorem SpAt.below {w w' : World} {p : Addr} {x : Sp} {B : Nat} (h : SpAt w p x) (hb : Below B w w') (hB : w.heap.size ≤ B) : SpAt w' p x := by
  obtain ⟨hp, ⟨h0, k0⟩, ⟨h1, k1⟩, ⟨h2, k2⟩⟩ := h
  have c : ∀ j, w'.cell? (p.add j) = w.cell? (p.add j) := fun j => hb.cell (p := p.add j) (by rw [add_block]; omega)
  exact ⟨Nat.lt_of_lt_of_le hp hb.size, ⟨(c 0).trans h0, k0⟩, ⟨(c 1).trans h1, k1⟩, ⟨(c 2).trans h2, k2⟩⟩
theorem Sps.below {w w' : World} {v : Value} {L : List Sp} {B : Nat} (h : Sps w v L) (hb : Below B w w') (hB : w.heap.size ≤ B) : Sps w' v L := by
  obtain ⟨a, cap, rfl, h1, h2, h3, h4⟩ := h
  exact ⟨a, cap, rfl, h1, h2, h3, fun x hx i hi => (h4 x hx i hi).below hb hB⟩
section
variable {H : Type} {enc : TypeId × Value → H} {W : World}
theorem sp_of_trod {p : Addr} {fuel : Nat} {cs : List Value} {y : DataW H × List MemPlace} (hc : W.cells? 0 p 3 = some cs) (hf : DataW.trod enc Try.prog W 0 (fun _ => true) true fuel 34 cs = some y) : ∃ x, SpAt W p x := by
  obtain ⟨_, hlen, hat⟩ := World.cells?_some hc
  obtain ⟨xs, n, _, _, _, hxs, hfld⟩ := DataW.trod_struct Try.underlying34 hf
  match cs, hlen with
  | [c0, c1, c2], _ =>
    have hx4 : xs.length = 3 := hxs
    have e : ∀ j, j < 3 → ∃ z, xs[j]? = some z := fun j hj => ⟨_, List.getElem?_eq_getElem (by omega)⟩
    obtain ⟨z0, e0⟩ := e 0 (by decide)
    have f0 : DataW.trod enc Try.prog W 0 (fun _ => true) true n 3 (([c0, c1, c2].drop 0).take (Try.prog.cellsOf 3)) = some z0 := (hfld 0 _ rfl).trans e0
    rw [show Try.prog.cellsOf 3 = 1 by kernel_rfl] at f0
    have h0 := hat 0 (by decide)
    obtain ⟨z1, e1⟩ := e 1 (by decide)
    have f1 : DataW.trod enc Try.prog W 0 (fun _ => true) true n 3 (([c0, c1, c2].drop 1).take (Try.prog.cellsOf 3)) = some z1 := (hfld 1 _ rfl).trans e1
    rw [show Try.prog.cellsOf 3 = 1 by kernel_rfl] at f1
    have h1 := hat 1 (by decide)
    obtain ⟨z2, e2⟩ := e 2 (by decide)
    have f2 : DataW.trod enc Try.prog W 0 (fun _ => true) true n 3 (([c0, c1, c2].drop 2).take (Try.prog.cellsOf 3)) = some z2 := (hfld 2 _ rfl).trans e2
    rw [show Try.prog.cellsOf 3 = 1 by kernel_rfl] at f2
    have h2 := hat 2 (by decide)
    obtain ⟨n0, g0, _, w0⟩ := DataW.trod_int Try.underlying3 f0
    obtain rfl : c0 = .int .i64 n0 := by simpa using g0
    obtain ⟨n1, g1, _, w1⟩ := DataW.trod_int Try.underlying3 f1
    obtain rfl : c1 = .int .i64 n1 := by simpa using g1
    obtain ⟨n2, g2, _, w2⟩ := DataW.trod_int Try.underlying3 f2
    obtain rfl : c2 = .int .i64 n2 := by simpa using g2
    refine ⟨⟨n0, n1, n2⟩, ?_, ⟨h0, w0⟩, ⟨h1, w1⟩, ⟨h2, w2⟩⟩
    have := World.block_lt_of_cell? W _ h0
    rwa [add_block] at this
theorem sps_of_trod {a : Option Addr} {len cap : Nat} {d : DataW H} {ps : List MemPlace}
    (h : DataW.Trod enc Try.prog W 0 (fun _ => true) true 22 (.slice a len cap) d ps) : ∃ L, Sps W (.slice a len cap) L := by
  obtain ⟨fuel, hf⟩ := h
  rcases open_slice Try.underlying22 hf with ⟨hcs, _⟩ | ⟨x, l, c, m, n, D, Pl, hcs, _, hl, hm, hmm, _, hi⟩
  · simp [Value.cells] at hcs
    obtain ⟨rfl, rfl, rfl⟩ := hcs
    exact ⟨[], none, 0, rfl, by simp, by simp [maxLen], fun _ => rfl, fun y hy => by cases hy⟩
  · simp [Value.cells] at hcs
    obtain ⟨rfl, rfl, rfl⟩ := hcs
    simp only [if_true] at hmm
    rw [show Try.prog.cellsOf 34 = 3 by kernel_rfl] at hi
    have hx : ∀ i, ∃ it : Sp, i < len → SpAt W (x.add (i * 3)) it := fun i => by
      by_cases h : i < len
      · obtain ⟨cs, h1, h2⟩ := hi i (by omega)
        obtain ⟨it, h3⟩ := sp_of_trod h1 h2
        exact ⟨it, fun _ => h3⟩
      · exact ⟨⟨0, 0, 0⟩, fun h' => absurd h' h⟩
    refine ⟨(List.range len).map fun i => Classical.choose (hx i), some x, cap, by simp, by simpa using hl, hm, (fun h => by cases h), fun y hy i hi' => ?_⟩
    cases hy
    have hi2 : i < len := by simpa using hi'
    simp only [List.getElem_map, List.getElem_range]
    exact Classical.choose_spec (hx i) hi2
end
end Go.Proofs.Ytpilfjdhpahphaa

/- Chapter 15's statements over a device that is but promised: what is asked of it; a device and the document's side by side. -/
namespace Go.Proofs.Ytpilfjdhpahphaa
open Go.RowKit Go.Deep
set_option linter.unusedSimpArgs false
set_option linter.unusedVariables false

/-- A device as it may be behind at most B ops. -/
structure okD (S : DS) (B : Nat) : Prop where
  ops : S.ops ≤ B
  n1 : 1 ≤ S.n
  n : S.n ≤ 65536
  left : (Lit.int .i64 S.left).wf = true
  good : ∀ k, k < S.n → (S.good k).length = 64
  pend : ∀ k, k < S.n → ∀ l ∈ S.pend k, l.length = 64
  cnt : ∀ k, (S.pend k).length ≤ B
theorem okD.more {S : DS} {B C : Nat} (h : okD S B) (hC : B ≤ C) : okD S C := ⟨Nat.le_trans h.ops hC, h.n1, h.n, h.left, h.good, h.pend, fun k => Nat.le_trans (h.cnt k) hC⟩
theorem opD_same (S : DS) : (opD S).n = S.n ∧ (opD S).good = S.good ∧ (opD S).pend = S.pend ∧ (opD S).ops = S.ops + 1 := by
  unfold opD
  split
  · exact ⟨rfl, rfl, rfl, rfl⟩
  · split
    · split <;> exact ⟨rfl, rfl, rfl, rfl⟩
    · exact ⟨rfl, rfl, rfl, rfl⟩
theorem left_wf {x : Int} (h : (Lit.int .i64 x).wf = true) (h1 : ¬ x < 1) : (Lit.int .i64 (x - 1)).wf = true := by
  have h2 := bd_i64 h
  have h3 : -9223372036854775808 ≤ x - 1 ∧ x - 1 ≤ 9223372036854775807 := by omega
  simp [Lit.wf, IntKind.min, IntKind.max, IntKind.signed, IntKind.bits]
  omega
theorem okD.op {S : DS} {B : Nat} (h : okD S B) : okD (opD S) (B + 1) := by
  obtain ⟨e1, e2, e3, e4⟩ := opD_same S
  refine ⟨by rw [e4]; have := h.ops; omega, by rw [e1]; exact h.n1, by rw [e1]; exact h.n, ?_, by rw [e1, e2]; exact h.good, by rw [e1, e3]; exact h.pend, by rw [e3]; exact fun k => Nat.le_succ_of_le (h.cnt k)⟩
  unfold opD
  split
  · exact h.left
  · split
    · split
      · exact h.left
      · rename_i _ _ hl
        exact left_wf h.left hl
    · exact h.left
/-- What Write answers and leaves. -/
def argS (S : DS) (k : Int) (b : List UInt8) : Bool := decide (0 ≤ k) && decide (k < (S.n : Int)) && decide (b.length = 64)
def wrE (S : DS) (k : Int) (b : List UInt8) : Int := if argS S k b = true then if opOk S = true then 0 else 10 else 1
def wrT (S : DS) (k : Int) (b : List UInt8) : DS := if argS S k b = true then if opOk S = true then wrS S k.toNat b else opD S else S
def flE (S : DS) : Int := if opOk S = true then 0 else 10
def flT (S : DS) : DS := if opOk S = true then flI (opD S) S.n else opD S
theorem nowS_len {S : DS} {B : Nat} (h : okD S B) (k : Nat) (hk : k < S.n) : (nowS S k).length = 64 := by
  unfold nowS atS
  split
  · exact h.good k hk
  · rename_i h0
    have hl : (S.pend k).length - 1 < (S.pend k).length := by omega
    rw [List.getD_eq_getElem?_getD, List.getElem?_eq_getElem hl]
    exact h.pend k hk _ (List.getElem_mem _)
theorem argS_yes {S : DS} {k : Int} {b : List UInt8} (h : argS S k b = true) : 0 ≤ k ∧ k < (S.n : Int) ∧ b.length = 64 := by
  simpa [argS, and_assoc] using h
theorem argS_no {S : DS} {k : Int} {b : List UInt8} (h : ¬ argS S k b = true) : ¬ (0 ≤ k ∧ k < (S.n : Int) ∧ b.length = 64) := fun h2 => h (by simpa [argS, and_assoc] using h2)
theorem wrT_ok {S : DS} {B : Nat} (h : okD S B) (k : Int) (b : List UInt8) : okD (wrT S k b) (B + 1) := by
  unfold wrT
  split
  · rename_i ha
    obtain ⟨a1, a2, a3⟩ := argS_yes ha
    split
    · have g := h.op
      refine ⟨g.ops, g.n1, g.n, g.left, g.good, fun j hj l hl => ?_, fun j => ?_⟩
      · have hj' : j < S.n := by have := (opD_same S).1; simpa [wrS, this] using hj
        simp only [wrS, updF] at hl
        split at hl
        · rename_i e
          rcases List.mem_append.1 hl with hl | hl
          · exact h.pend _ (by omega) l hl
          · rw [List.mem_singleton.1 hl]; exact a3
        · exact h.pend j hj' l hl
      · simp only [wrS, updF]
        split
        · rw [List.length_append]
          have := h.cnt k.toNat
          simp
          omega
        · exact Nat.le_succ_of_le (h.cnt j)
    · exact h.op
  · exact h.more (Nat.le_succ _)
theorem flT_ok {S : DS} {B : Nat} (h : okD S B) : okD (flT S) (B + 1) := by
  unfold flT
  split
  · have g := h.op
    have e := opD_same S
    refine ⟨g.ops, g.n1, g.n, g.left, fun k hk => ?_, fun k hk l hl => ?_, fun k => ?_⟩
    · have hk' : k < S.n := by rw [← e.1]; exact hk
      show (if k < S.n then nowS (opD S) k else (opD S).good k).length = 64
      rw [if_pos hk']
      exact nowS_len g k hk
    · have hk' : k < S.n := by rw [← e.1]; exact hk
      have hl' : l ∈ (if k < S.n then [] else (opD S).pend k) := hl
      rw [if_pos hk'] at hl'
      cases hl'
    · show (if k < S.n then [] else (opD S).pend k).length ≤ B + 1
      split
      · exact Nat.zero_le _
      · exact g.cnt k
  · exact h.op
theorem cutS_ok {S : DS} {B : Nat} (h : okD S B) (x : Int) (hx : (Lit.int .i64 x).wf = true) : okD (cutS S x) B := ⟨h.ops, h.n1, h.n, hx, h.good, h.pend, h.cnt⟩
/-- What a call leaves behind of a device: the blocks that it turned are its own (T), or new; what it hangs on (D) is what it was, or new. -/
def BkNew (BkAt : (Nat → Prop) → (Nat → Prop) → World → Nat → DS → Prop) (T D : Nat → Prop) (w : World) (y : Nat) (S : DS) (w' : World) : Prop :=
  ∃ T' D', BkAt T' D' w' y S ∧ Sam T w w' ∧ (∀ b, T' b → T b ∨ w.heap.size ≤ b) ∧ ∀ b, D' b → D b ∨ w.heap.size ≤ b
/-- Another device that is made of one: what it turns is new. -/
def BkMade (BkAt : (Nat → Prop) → (Nat → Prop) → World → Nat → DS → Prop) (T D : Nat → Prop) (w : World) (S : DS) (e : Ending) (w' : World) : Prop :=
  ∃ y' T' D', e = .returned (.pointer (some ⟨y', 0, none⟩)) ∧ BkAt T' D' w' y' S ∧ Below w.heap.size w w' ∧ (∀ b, T' b → w.heap.size ≤ b) ∧ ∀ b, D' b → (D b ∧ ¬ T b) ∨ w.heap.size ≤ b
/-- What is asked of a device. -/
structure BkApi (BkAt : (Nat → Prop) → (Nat → Prop) → World → Nat → DS → Prop) : Prop where
  sub : ∀ T D w y S, BkAt T D w y S → ∀ b, T b → D b
  lt : ∀ T D w y S, BkAt T D w y S → ∀ b, D b → b < w.heap.size
  stay : ∀ T D F w w' y S, BkAt T D w y S → Sam F w w' → (∀ b, F b → ¬ D b) → BkAt T D w' y S
  newNo : ∀ w (x : Int), ¬ (1 ≤ x ∧ x ≤ 65536) → Calls Try.prog 10 #[.int .i64 x] w fun e w' => e = .returned (.tuple #[.pointer none, .int .i64 1]) ∧ Below w.heap.size w w'
  newYes : ∀ w (n : Nat), 1 ≤ n → n ≤ 65536 → Calls Try.prog 10 #[.int .i64 (n : Int)] w fun e w' => ∃ y T D, e = .returned (.tuple #[.pointer (some ⟨y, 0, none⟩), .int .i64 0]) ∧ BkAt T D w' y (newS n) ∧ (∀ b, D b → w.heap.size ≤ b) ∧ Below w.heap.size w w'
  write : ∀ T D w y S B (k : Int) vb b, BkAt T D w y S → okD S B → B ≤ 100000 → BsK T w vb b → Calls Try.prog 19 #[.pointer (some ⟨y, 0, none⟩), .int .i64 k, vb] w fun e w' => e = .returned (.int .i64 (wrE S k b)) ∧ BkNew BkAt T D w y (wrT S k b) w'
  read : ∀ T D w y S B (k : Int), BkAt T D w y S → okD S B → B ≤ 100000 → Calls Try.prog 16 #[.pointer (some ⟨y, 0, none⟩), .int .i64 k] w fun e w' => ∃ v, e = .returned (.tuple #[v, .int .i64 (if 0 ≤ k ∧ k < (S.n : Int) then 0 else 1)]) ∧ Bs w' v (if 0 ≤ k ∧ k < (S.n : Int) then nowS S k.toNat else []) ∧ Below w.heap.size w w'
  flush : ∀ T D w y S B, BkAt T D w y S → okD S B → B ≤ 100000 → Calls Try.prog 20 #[.pointer (some ⟨y, 0, none⟩)] w fun e w' => e = .returned (.int .i64 (flE S)) ∧ BkNew BkAt T D w y (flT S) w'
  cut : ∀ T D w y S (x : Int), BkAt T D w y S → Calls Try.prog 23 #[.pointer (some ⟨y, 0, none⟩), .int .i64 x] w fun e w' => e = .returned (.tuple #[]) ∧ BkNew BkAt T D w y (cutS S x) w'
  crash : ∀ T D w y S B L (pk : Nat → Int) vp, BkAt T D w y S → okD S B → B ≤ 100000 → Vs w vp L (fun i => .int .i64 (pk i)) → L ≤ 1000 → (∀ i, i < L → (Lit.int .i64 (pk i)).wf = true) → Calls Try.prog 13 #[.pointer (some ⟨y, 0, none⟩), vp] w fun e w' => BkMade BkAt T D w (crI S L pk S.n) e w'
  copy : ∀ T D w y S B, BkAt T D w y S → okD S B → B ≤ 100000 → Calls Try.prog 17 #[.pointer (some ⟨y, 0, none⟩)] w fun e w' => BkMade BkAt T D w S e w'
  len : ∀ T D w y S B, BkAt T D w y S → okD S B → Calls Try.prog 22 #[.pointer (some ⟨y, 0, none⟩)] w fun e w' => e = .returned (.int .i64 (S.n : Int)) ∧ Below w.heap.size w w'
  ops : ∀ T D w y S B, BkAt T D w y S → okD S B → Calls Try.prog 26 #[.pointer (some ⟨y, 0, none⟩)] w fun e w' => e = .returned (.int .i64 (S.ops : Int)) ∧ Below w.heap.size w w'
  off : ∀ T D w y S B, BkAt T D w y S → okD S B → Calls Try.prog 21 #[.pointer (some ⟨y, 0, none⟩)] w fun e w' => e = .returned (.bool S.off) ∧ Below w.heap.size w w'
  readN : ∀ w (k : Int), Calls Try.prog 16 #[.pointer none, .int .i64 k] w fun e w' => ∃ v, e = .returned (.tuple #[v, .int .i64 1]) ∧ Below w.heap.size w w'
  writeN : ∀ w (k : Int), Calls Try.prog 19 #[.pointer none, .int .i64 k, .slice none 0 0] w fun e w' => e = .returned (.int .i64 1) ∧ Below w.heap.size w w'
  flushN : ∀ w, Calls Try.prog 20 #[.pointer none] w fun e w' => e = .returned (.int .i64 10) ∧ Below w.heap.size w w'
  offN : ∀ w, Calls Try.prog 21 #[.pointer none] w fun e w' => e = .returned (.bool true) ∧ Below w.heap.size w w'
  lenN : ∀ w, Calls Try.prog 22 #[.pointer none] w fun e w' => e = .returned (.int .i64 0) ∧ Below w.heap.size w w'
  crashN : ∀ w (k : Int) vp, Vs w vp 1 (fun _ => .int .i64 k) → Calls Try.prog 13 #[.pointer none, vp] w fun e w' => e = .returned (.pointer none) ∧ Below w.heap.size w w'
  copyN : ∀ w, Calls Try.prog 17 #[.pointer none] w fun e w' => e = .returned (.pointer none) ∧ Below w.heap.size w w'
/-- A device of the document's stays while what may turn grows. -/
theorem DevAt.kept {M N F : Nat → Prop} {m g wb : Nat} {w w' : World} {S : DS} (h : DevAt M m g wb w S) (k : Sam F w w') (hF : ∀ b, F b → M b) (hm : ¬ F m) (hg : ¬ F g) (hw : ¬ F wb) (hM : ∀ b, M b → N b) (hN : ∀ b, N b → M b ∨ w.heap.size ≤ b) : DevAt N m g wb w' S := by
  obtain ⟨gc, wc, gf, wf, h1, h2⟩ := h
  have k' : Sam M w w' := k.mono fun b _ => hF b
  exact ⟨gc, wc, gf, wf, Sam.row h1 k hm, h2.gl, h2.gm, h2.wl, h2.wm, Sam.row h2.rg k hg, Sam.row h2.rw k hw, h2.mg, h2.mw, h2.gw, hM _ h2.Mm, hM _ h2.Mg, hM _ h2.Mw, fun i hi => (h2.bg i hi).wide k' hN, fun i hi => (h2.bw i hi).wide k' hN⟩
theorem DevAt.own {M : Nat → Prop} {m g wb : Nat} {w : World} {S : DS} (h : DevAt M m g wb w S) : M m ∧ M g ∧ M wb := by
  obtain ⟨gc, wc, gf, wf, h1, h2⟩ := h
  exact ⟨h2.Mm, h2.Mg, h2.Mw⟩
/-- A device and the document's side by side. M: all that may turn. -/
structure Two (BkAt : (Nat → Prop) → (Nat → Prop) → World → Nat → DS → Prop) (M T D : Nat → Prop) (y m g wb : Nat) (w : World) (S : DS) : Prop where
  bk : BkAt T D w y S
  dv : DevAt M m g wb w S
  tm : ∀ b, T b → M b
  ml : ∀ b, M b → b < w.heap.size
  dm : ¬ D m
  dg : ¬ D g
  dw : ¬ D wb
/-- What turns of both. -/
def turnT (T : Nat → Prop) (m g wb : Nat) : Nat → Prop := fun b => T b ∨ b = m ∨ b = g ∨ b = wb
/-- What a step on both leaves. -/
def TwoNew (BkAt : (Nat → Prop) → (Nat → Prop) → World → Nat → DS → Prop) (M T D : Nat → Prop) (y m g wb : Nat) (w : World) (S : DS) (w' : World) : Prop :=
  ∃ M' T' D', Two BkAt M' T' D' y m g wb w' S ∧ Sam (turnT T m g wb) w w' ∧ (∀ b, M b → M' b) ∧ (∀ b, M' b → M b ∨ w.heap.size ≤ b) ∧ (∀ b, T' b → T b ∨ w.heap.size ≤ b) ∧ ∀ b, D' b → D b ∨ w.heap.size ≤ b
section
variable {BkAt : (Nat → Prop) → (Nat → Prop) → World → Nat → DS → Prop} (A : BkApi BkAt)
include A
theorem Two.bel {M T D : Nat → Prop} {y m g wb : Nat} {w w' : World} {S : DS} (h : Two BkAt M T D y m g wb w S) (k : Below w.heap.size w w') : Two BkAt M T D y m g wb w' S := by
  have hA := A
  exact ⟨hA.stay _ _ (fun _ => False) _ _ _ _ h.bk (Sam.of_below k) (fun _ h => h.elim), h.dv.keep (F := fun _ => False) (Sam.of_below k) (fun _ h => h.elim) (fun h => h) (fun h => h) (fun h => h), h.tm, fun b hb => Nat.lt_of_lt_of_le (h.ml b hb) k.size, h.dm, h.dg, h.dw⟩
/-- The device's own call, ahead of the document's. -/
theorem Two.half {M T D : Nat → Prop} {y m g wb : Nat} {w w1 : World} {S S' : DS} (h : Two BkAt M T D y m g wb w S) (hn : BkNew BkAt T D w y S' w1) :
    ∃ M' T' D', BkAt T' D' w1 y S' ∧ DevAt M' m g wb w1 S ∧ Sam (turnT T m g wb) w w1 ∧ (∀ b, T' b → M' b) ∧ (∀ b, M' b → b < w1.heap.size) ∧ ¬ D' m ∧ ¬ D' g ∧ ¬ D' wb ∧ (∀ b, M b → M' b) ∧ (∀ b, M' b → M b ∨ w.heap.size ≤ b) ∧ (∀ b, T' b → T b ∨ w.heap.size ≤ b) ∧ ∀ b, D' b → D b ∨ w.heap.size ≤ b := by
  have hA := A
  obtain ⟨T', D', h1, h2, h3, h4⟩ := hn
  have hl := h.dv.lt
  have no : ∀ x, ¬ D x → x < w.heap.size → ¬ D' x := fun x hx hxl hd => (h4 x hd).elim hx (fun h => by omega)
  have nt : ∀ x, ¬ D x → ¬ T x := fun x hx ht => hx (hA.sub _ _ _ _ _ h.bk x ht)
  refine ⟨fun b => M b ∨ T' b, T', D', h1, h.dv.kept h2 h.tm (nt _ h.dm) (nt _ h.dg) (nt _ h.dw) (fun b hb => .inl hb) (fun b hb => hb.elim .inl fun hb => (h3 b hb).imp (h.tm b) id), h2.mono (fun b _ hb => .inl hb), fun b hb => .inr hb, ?_, no _ h.dm hl.1, no _ h.dg hl.2.1, no _ h.dw hl.2.2, fun b hb => .inl hb, fun b hb => hb.elim .inl fun hb => (h3 b hb).imp (h.tm b) id, h3, h4⟩
  rintro b (hb | hb)
  · exact Nat.lt_of_lt_of_le (h.ml b hb) h2.size
  · exact hA.lt _ _ _ _ _ h1 b (hA.sub _ _ _ _ _ h1 b hb)
end
end Go.Proofs.Ytpilfjdhpahphaa

/- A region in which the relation E alone holds between worlds, as one segment. -/
namespace Go.Proofs.Ytpilfjdhpahphaa
open Go.RowKit Go.Deep
set_option linter.unusedSimpArgs false
set_option linter.unusedVariables false

section
variable {P : Program} {ops : Array Oper} {Q : Exit → Act → World → Prop}
theorem wp_region_linE {id : Nat} {a : Act} {w : World} (E : World → World → Prop) (hrf : ∀ w, E w w) (htr : ∀ w1 w2 w3, E w1 w2 → E w2 w3 → E w1 w3) (n c : Nat) (r : Stp) (hm : P.follows .mixedOrders = true) (hs : Region.noSelect ops = true) (hl : r.depth ≤ ops.size)
    (hk : planOk ops n [(r, c)] (Array.replicate ops.size false) = true) (hQ : ∀ d v c a w, Q (.panic c) (Act.put a d v) w → Q (.panic c) a w)
    (h : LinZ P ops Q E (fun a w => Q .normal a w) r a w.drew) : (Code.region id ops true).wp P Q a w :=
  wp_region_plan E hrf htr n [(r, c)] hm hs (by simpa [planDepth] using hl) hk hQ ⟨_, h, fun a' w' h => h⟩
theorem linz_end {E : World → World → Prop} {a : Act} {w : World} (h : Q .normal a w) : LinZ P ops Q E (fun a w => Q .normal a w) .done a w := h
end
end Go.Proofs.Ytpilfjdhpahphaa

/- Bytes that hang on a number: missivealike.Block. -/
namespace Go.Proofs.Ytpilfjdhpahphaa
open Go.RowKit Go.Deep
set_option linter.unusedSimpArgs false
set_option linter.unusedVariables false

theorem wmax {ops : Array Oper} {rest : List Oper} {o : Oper} {a : Act} {w : World} {Q : Exit → Act → World → Prop} (hgd : o.guard = none) (x y : Operand) {ts : Array TypeId} (ho : o.op = .call { callee := .builtin .max, args := #[x, y], argTypes := ts }) {k : IntKind} {i j m : Int}
    (hx : a.eval x = .int k i) (hy : a.eval y = .int k j) (hm : m = if i < j then j else i) (h : wpList Try.prog ops Q rest (a.put o.dst (.int k m)) w) : wpList Try.prog ops Q (o :: rest) a w := by
  refine wpList_value hgd (.int k m) ?_ h
  subst hm
  simp [execOp, ho, resolve, invoke, builtin, hx, hy, run_max_int2, Result.andThen]
theorem wmakeO {ops : Array Oper} {rest : List Oper} {o : Oper} {a : Act} {w : World} {Q : Exit → Act → World → Prop} (hgd : o.guard = none) (x : Operand) (ho : o.op = .makeSlice 39 x x) (n : Nat) (hx : a.eval x = .int .i64 (n : Int)) (hn : n ≤ 2147483647)
    (h : ∀ b w', w.heap.size ≤ b → Owns w' w.heap.size (.slice (some ⟨b, 0, none⟩) n n) (List.replicate n 0) → Below w.heap.size w w' → wpList Try.prog ops Q rest (a.put o.dst (.slice (some ⟨b, 0, none⟩) n n)) w') : wpList Try.prog ops Q (o :: rest) a w := by
  have hm := run_make_row' (P := Try.prog) 39 5 (.int .u8 0) 1 Try.underlying39 Try.info5 rfl .i64 .i64 n (by omega) (by omega) w
  have hr : (execOp a.eval (mkOp (.makeSlice 39 x x) o.type)).run Try.prog w = .ok (.value (.slice (some ⟨w.heap.size, 0, none⟩) n n)) (w.alloc (.cells (madeCells #[.int .u8 0] n) 5)) := by
    simp [execOp, mkOp, hx, hm, Result.andThen]
  exact wpList_plain hgd fun _ hK => by
    unfold Oper.wp
    rw [exec_mkOp, ho, hr]
    exact hK _ _ (h _ _ (Nat.le_refl _) (made_own w n (by unfold maxLen; omega)) ((Below.refl _ _).alloc (Nat.le_refl _) _))
/-- The bytes that hang on a number. -/
def blkN (k : Int) (i : Nat) : Nat := (IntKind.i64.wrap (IntKind.i64.wrap (((i * i : Nat) : Int) + IntKind.i64.wrap (k * 7)) + 1) % 251).toNat
def blkL (k : Int) (n : Nat) : List UInt8 := (List.range n).map fun i => UInt8.ofNat (blkN k i)
theorem blkL_len (k : Int) (n : Nat) : (blkL k n).length = n := by simp [blkL]
theorem wrap_bd (x : Int) : -9223372036854775808 ≤ IntKind.i64.wrap x ∧ IntKind.i64.wrap x ≤ 9223372036854775807 := bd_i64 (wf_wrap .i64 x)
theorem blk_more {l : List UInt8} {k : Int} {i r : Nat} (h : ∀ j, j < i → l[j]? = some (UInt8.ofNat (blkN k j))) (hr : blkN k i = r) (hi : i < l.length) : ∀ j, j < i + 1 → (l.set i (UInt8.ofNat r))[j]? = some (UInt8.ofNat (blkN k j)) := fun j hj => by
  by_cases e : j = i
  · subst e
    rw [List.getElem?_set_self hi, hr]
  · rw [List.getElem?_set_ne (fun h => e h.symm)]
    exact h j (by omega)
set_option maxHeartbeats 4000000 in
set_option maxRecDepth 20000 in
theorem block2_any (w : World) (n : Nat) (k : Int) (hn : n ≤ 6000) : Calls Try.prog 25 #[.int .i64 (n : Int), .int .i64 k] w fun e w' => ∃ v, e = .returned v ∧ Owns w' w.heap.size v (blkL k n) ∧ Below w.heap.size w w' := by
  have HN := Lib.hid hn
  have hmx : Hid ((n : Int) = if (n : Int) < 0 then 0 else (n : Int)) := Lib.hid (by rw [if_neg (by omega)])
  have Bw0 := Below.refl w.heap.size w
  have HGS : Hid (∀ wq : World, Below w.heap.size w wq → w.heap.size ≤ wq.heap.size) := Lib.hid fun wq h => h.size
  obtain ⟨K7, hK7⟩ : ∃ K7, K7 = IntKind.i64.wrap (k * 7) := ⟨_, rfl⟩
  have e0 : IntKind.i64.wrap (k * 7) = K7 := hK7.symm
  have HK7 := Lib.hid hK7
  clear hn hK7
  go_enter Try.func25, Try.ntmps25
  go_wp2_with (first
    | (have hgo := Bw0; clear hgo
       refine wmax rfl (.tmp 7) (.const (.int .i64 0)) rfl rfl rfl hmx.out ?_)
    | (have hgo := Bw0; clear hgo
       refine wmakeO rfl (.tmp 8) rfl n rfl (by have := HN.out; omega) ?_
       intro bo w1 lo o_v kk
       have LO := Lib.hid lo
       have Bw1 := kk
       clear Bw0 kk lo))
  go_loopw [6] (fun iv wr => ∃ (i : Nat) (l : List UInt8), i ≤ n ∧ iv = .int .i64 (i : Int) ∧ l.length = n ∧ (∀ j, j < i → l[j]? = some (UInt8.ofNat (blkN k j))) ∧ Owns wr w.heap.size (.slice (some ⟨bo, 0, none⟩) n n) l ∧ Below w.heap.size w wr) (fun iv _ => n - (intOf iv).toNat)
  case atStart => exact ⟨0, List.replicate n 0, Nat.zero_le _, rfl, List.length_replicate, (fun j hj => absurd hj (Nat.not_lt_zero _)), o_v, Bw1⟩
  case round =>
    clear o_v Bw1
    obtain ⟨i, l, hi, rfl, hl, hd, o_v, Bw1⟩ := hrel
    by_cases hlt : i < n
    · have hiI : 0 ≤ (i : Int) ∧ (i : Int) < (n : Int) := by omega
      have HI := Lib.hid hlt
      have HL := Lib.hid hl
      have HD := Lib.hid hd
      obtain ⟨S, hS⟩ := nat_var (i * i)
      have hSle : S ≤ 36000000 := by rw [hS]; exact Nat.le_trans (Nat.mul_le_mul (show i ≤ 6000 by have := HN.out; omega) (show i ≤ 6000 by have := HN.out; omega)) (by decide)
      have e1 : IntKind.i64.wrap ((i : Int) * (i : Int)) = (S : Int) := by rw [show (i : Int) * (i : Int) = (S : Int) by rw [hS, Int.natCast_mul]]; rw [IntWalk.i64_in _ (by omega)]
      obtain ⟨S7, hS7⟩ : ∃ S7, S7 = IntKind.i64.wrap ((S : Int) + K7) := ⟨_, rfl⟩
      obtain ⟨S8, hS8⟩ : ∃ S8, S8 = IntKind.i64.wrap (S7 + 1) := ⟨_, rfl⟩
      have hb8 : -9223372036854775808 ≤ S8 ∧ S8 ≤ 9223372036854775807 := by rw [hS8]; exact wrap_bd _
      obtain ⟨r, hr⟩ : ∃ r : Nat, S8 % 251 = (r : Int) := ⟨(S8 % 251).toNat, by omega⟩
      have HR : Hid (S8 % 251 = (r : Int) ∧ r < 256 ∧ -9223372036854775808 ≤ S8 ∧ S8 ≤ 9223372036854775807) := Lib.hid (by omega)
      have HBN : Hid (blkN k i = r) := Lib.hid (by
        unfold blkN
        rw [← HK7.out, ← hS, ← hS7, ← hS8, hr]
        rfl)
      have e2 := hS7.symm
      have e3 := hS8.symm
      have e4 : IntKind.u8.wrap (r : Int) = (r : Int) := by rw [IntKind.wrap_u8]; omega
      obtain ⟨i1, hi1⟩ := nat_var (i + 1)
      have e5 : IntKind.i64.wrap ((i : Int) + 1) = (i1 : Int) := by rw [IntWalk.i64_in _ (by have := HN.out; omega)]; omega
      have HI1 := Lib.hid hi1
      clear hi hlt hS hSle hS7 hS8 hr hi1 hl hd hb8
      go_wp2_with (first
        | (have hgo := e4; clear hgo
           go_at_call 24
           refine (round_any _ 251 _ HR.out.2.2.1 HR.out.2.2.2 (by decide) (by decide)).mono ?_
           rintro e w2 ⟨rfl, h2⟩
           obtain rfl := h2.symm
           rw [HR.out.1])
        | (have hgo := Bw1; clear hgo
           refine wpList_store_byte rfl (.tmp 27) (.tmp 26) rfl i r o_v HL.out.symm (Nat.le_refl _) (by rw [HL.out]; exact HI.out) rfl rfl HR.out.2.1 ?_
           intro w3 o3 g3
           have Bw3 := Bw1.grown g3 (HGS.out _ Bw1) (fun k hk => by cases hk; exact LO.out)
           clear Bw1 g3 o_v))
      go_roundw
      case rel => exact ⟨i + 1, _, HI.out, by rw [HI1.out], by rw [List.length_set]; exact HL.out, blk_more HD.out HBN.out (by rw [HL.out]; exact HI.out), o3, Bw3⟩
      case measure => (have := HI1.out; have := HI.out; simp [intOf]; try omega)
    · obtain rfl : i = n := by omega
      have hiI : ¬ (i : Int) < (i : Int) := by omega
      have HE : Hid (l = blkL k i) := Lib.hid (List.ext_getElem? fun j => by
        by_cases hj : j < i
        · rw [hd j hj, blkL, List.getElem?_map, List.getElem?_range hj]; rfl
        · rw [List.getElem?_eq_none (by omega), List.getElem?_eq_none (by rw [blkL_len]; omega)])
      rw [HE.out] at o_v
      clear hlt hi hd hl
      go_wp2
      go_ret
      exact ⟨_, rfl, o_v, Bw1⟩
end Go.Proofs.Ytpilfjdhpahphaa

/- Chapter 15's statements over a device that is but promised: Block, does. -/
namespace Go.Proofs.Ytpilfjdhpahphaa
open Go.RowKit Go.Deep
set_option linter.unusedSimpArgs false
set_option linter.unusedVariables false

theorem devWrite_to (M : Nat → Prop) (m g wb : Nat) (S : DS) (B : Nat) (k : Int) (v2 : Value) (l2 : List UInt8) (w : World) (h : DevAt M m g wb w S) (hs : okD S B) (hB : B ≤ 100000) (h2 : Bs w v2 l2) (hM : ∀ b, M b → b < w.heap.size) : Calls Try.prog 28 #[.pointer (some ⟨m, 0, none⟩), .int .i64 k, v2] w fun e w' => e = .returned (.int .i64 (wrE S k l2)) ∧ DevAt M m g wb w' (wrT S k l2) ∧ Sam (fun b => b = m ∨ b = g ∨ b = wb) w w' := by
  unfold wrE wrT
  by_cases ha : argS S k l2 = true
  · obtain ⟨a1, a2, a3⟩ := argS_yes ha
    obtain ⟨kn, rfl⟩ : ∃ kn : Nat, k = (kn : Int) := ⟨k.toNat, by omega⟩
    rw [if_pos ha, if_pos ha]
    by_cases ho : opOk S = true
    · rw [if_pos ho, if_pos ho]
      refine (devWrite_ok M m g wb S kn v2 l2 w h h2 hs.n (by omega) a3 (by have := hs.ops; omega) hs.left ho (by have := hs.cnt kn; omega) hM).mono ?_
      rintro e w' ⟨h1, h3, h4⟩
      exact ⟨h1, h3, h4.mono fun b _ hb => hb.imp id fun h => .inr h⟩
    · rw [if_neg ho, if_neg ho]
      refine (devWrite_off M m g wb S kn v2 l2 w h h2 hs.n (by omega) a3 (by have := hs.ops; omega) hs.left (by simpa using ho)).mono ?_
      rintro e w' ⟨h1, h3, h4⟩
      exact ⟨h1, h3, h4.mono fun b _ hb => .inl hb⟩
  · rw [if_neg ha, if_neg ha]
    refine (devWrite_arg M m g wb S k v2 l2 w h h2 hs.n (argS_no ha)).mono ?_
    rintro e w' ⟨h1, rfl⟩
    exact ⟨h1, h, Sam.refl _ _⟩
theorem devFlush_to (M : Nat → Prop) (m g wb : Nat) (S : DS) (B : Nat) (w : World) (h : DevAt M m g wb w S) (hs : okD S B) (hB : B ≤ 100000) : Calls Try.prog 29 #[.pointer (some ⟨m, 0, none⟩)] w fun e w' => e = .returned (.int .i64 (flE S)) ∧ DevAt M m g wb w' (flT S) ∧ Sam (fun b => b = m ∨ b = g ∨ b = wb) w w' := by
  unfold flE flT
  by_cases ho : opOk S = true
  · rw [if_pos ho, if_pos ho]
    exact devFlush_ok M m g wb S w h hs.n (by have := hs.ops; omega) hs.left ho (fun k => by have := hs.cnt k; omega)
  · rw [if_neg ho, if_neg ho]
    refine (devFlush_off M m g wb S w h hs.n (by have := hs.ops; omega) hs.left (by simpa using ho)).mono ?_
    rintro e w' ⟨h1, h3, h4⟩
    exact ⟨h1, h3, h4.mono fun b _ hb => .inl hb⟩
/-- A step of Sp: what it leaves. -/
def stB (x : Sp) : List UInt8 := if x.n < 0 then (blkL x.n 64).take (x.n % 64).toNat else blkL x.n 64
def stS (S : DS) (x : Sp) : DS := if x.k = 1 then wrT S x.m (stB x) else if x.k = 2 then flT S else if x.k = 3 then cutS S x.m else S
def spF (x : Sp) : Nat → Value := fun j => if j = 0 then .int .i64 x.k else if j = 1 then .int .i64 x.m else .int .i64 x.n
structure okSp (x : Sp) : Prop where
  k : (Lit.int .i64 x.k).wf = true
  m : (Lit.int .i64 x.m).wf = true
  n : (Lit.int .i64 x.n).wf = true
theorem stS_ok {S : DS} {B : Nat} (h : okD S B) (x : Sp) (hx : okSp x) : okD (stS S x) (B + 1) := by
  unfold stS
  split
  · exact wrT_ok h _ _
  · split
    · exact flT_ok h
    · split
      · exact (cutS_ok h _ hx.m).more (Nat.le_succ _)
      · exact h.more (Nat.le_succ _)
section
variable {BkAt : (Nat → Prop) → (Nat → Prop) → World → Nat → DS → Prop} (A : BkApi BkAt)
include A
/-- The document's call, behind the device's own. -/
theorem two_join {M T D M' T' D' : Nat → Prop} {y m g wb : Nat} {w w1 w2 : World} {S' : DS} (hb : BkAt T' D' w1 y S') (hs : Sam (turnT T m g wb) w w1) (ht : ∀ b, T' b → M' b) (hl : ∀ b, M' b → b < w1.heap.size) (n1 : ¬ D' m) (n2 : ¬ D' g) (n3 : ¬ D' wb) (m1 : ∀ b, M b → M' b) (m2 : ∀ b, M' b → M b ∨ w.heap.size ≤ b) (t2 : ∀ b, T' b → T b ∨ w.heap.size ≤ b) (d2 : ∀ b, D' b → D b ∨ w.heap.size ≤ b)
    (hd : DevAt M' m g wb w2 S') (k : Sam (fun b => b = m ∨ b = g ∨ b = wb) w1 w2) : TwoNew BkAt M T D y m g wb w S' w2 := by
  have hA := A
  refine ⟨M', T', D', ⟨hA.stay _ _ _ _ _ _ _ hb k (fun b h hd => h.elim (fun e => n1 (e ▸ hd)) fun h => h.elim (fun e => n2 (e ▸ hd)) fun e => n3 (e ▸ hd)), hd, ht, fun b h => Nat.lt_of_lt_of_le (hl b h) k.size, n1, n2, n3⟩, hs.trans (k.mono fun b _ h => .inr h), m1, m2, t2, d2⟩
theorem TwoNew.same {M T D : Nat → Prop} {y m g wb : Nat} {w w' : World} {S : DS} (h : Two BkAt M T D y m g wb w S) (k : Below w.heap.size w w') : TwoNew BkAt M T D y m g wb w S w' :=
  ⟨M, T, D, Two.bel A h k, Sam.of_below k, fun _ h => h, fun _ h => .inl h, fun _ h => .inl h, fun _ h => .inl h⟩
theorem TwoNew.aft {M T D : Nat → Prop} {y m g wb : Nat} {w w1 w' : World} {S' : DS} (k : Below w.heap.size w w1) (h : TwoNew BkAt M T D y m g wb w1 S' w') : TwoNew BkAt M T D y m g wb w S' w' := by
  have hA := A
  obtain ⟨M', T', D', h1, h2, h3, h4, h5, h6⟩ := h
  have := k.size
  exact ⟨M', T', D', h1, (Sam.of_below k).trans h2, h3, fun b h => (h4 b h).imp id fun h => by omega, fun b h => (h5 b h).imp id fun h => by omega, fun b h => (h6 b h).imp id fun h => by omega⟩
theorem TwoNew.bel {M T D : Nat → Prop} {y m g wb : Nat} {w w1 w' : World} {S' : DS} (h : TwoNew BkAt M T D y m g wb w S' w1) (k : Below w1.heap.size w1 w') : TwoNew BkAt M T D y m g wb w S' w' := by
  obtain ⟨M', T', D', h1, h2, h3, h4, h5, h6⟩ := h
  exact ⟨M', T', D', Two.bel A h1 k, h2.trans (Sam.of_below k), h3, h4, h5, h6⟩
theorem Two.drew {M T D : Nat → Prop} {y m g wb : Nat} {w : World} {S : DS} (h : Two BkAt M T D y m g wb w S) : Two BkAt M T D y m g wb w.drew S := Two.bel A h ((Below.refl _ _).drew)
omit A in
theorem TwoNew.ofdrew {M T D : Nat → Prop} {y m g wb : Nat} {w w' : World} {S : DS} (h : TwoNew BkAt M T D y m g wb w.drew S w') : TwoNew BkAt M T D y m g wb w S w' := by
  obtain ⟨M', T', D', h1, h2, h3, h4, h5, h6⟩ := h
  exact ⟨M', T', D', h1, h2.ofdrew, h3, h4, h5, h6⟩
omit A in
theorem bk_turn {T D : Nat → Prop} {y : Nat} {w w' : World} {S : DS} (h : BkNew BkAt T D w y S w') : Sam T w w' := by
  obtain ⟨T', D', h1, h2, h3, h4⟩ := h
  exact h2
omit A in
theorem wtakeO {w : World} {base : Nat} {v : Value} {l : List UInt8} (h : Owns w base v l) (k : Nat) (hk : k ≤ l.length) :
    ∃ v', (∀ T : Nat → Prop, (∀ b, T b → b < base) → ∀ w', Sam T w w' → Bs w' v' (l.take k)) ∧ ∀ (ρ : Operand → Value) (x hi : Operand) (t : TypeId) (w0 : World), ρ x = v → ρ hi = .int .i64 (k : Int) → (execOp ρ (mkOp (.slice 39 x none (some hi) none) t)).run Try.prog w0 = .ok (.value v') w0 := by
  obtain ⟨ad, n, cap, rfl, hn, hc1, hc2, hB⟩ := h.bs.shape
  refine ⟨.slice ad k cap, fun T hT w' s => ((BsK.own (M := T) h hT) w' s).take (k := k) (by omega), fun ρ x hi t w0 hx hh => ?_⟩
  simp [execOp, mkOp, hx, hh, run_toB (P := Try.prog) w0 39 5 ad n cap k Try.underlying39 (by kernel_rfl) (by omega), Result.andThen]
omit A in
theorem wpList_val2 {ops : Array Oper} {rest : List Oper} {o : Oper} {a : Act} {w : World} {Q : Exit → Act → World → Prop} (p : Op) (ho : o.op = p) (hgd : o.guard = none) (v : Value) (hx : (execOp a.eval (mkOp p o.type)).run Try.prog w = .ok (.value v) w)
    (h : wpList Try.prog ops Q rest (a.put o.dst v) w) : wpList Try.prog ops Q (o :: rest) a w :=
  wpList_plain hgd fun _ hK => by
    unfold Oper.wp
    rw [exec_mkOp, ho, hx]
    exact hK _ _ h
set_option maxHeartbeats 4000000 in
set_option maxRecDepth 20000 in
theorem does_w1 (M T D : Nat → Prop) (y m g wb : Nat) (w : World) (S : DS) (B : Nat) (x : Sp) (hT : Two BkAt M T D y m g wb w S) (hs : okD S B) (hB : B ≤ 100000) (hx : okSp x) (hk : x.k = 1) (hn : ¬ x.n < 0) : Calls Try.prog 12 #[.pointer (some ⟨y, 0, none⟩), .pointer (some ⟨m, 0, none⟩), .agg #[.int .i64 x.k, .int .i64 x.m, .int .i64 x.n]] w fun e w' => e = .returned (.bool true) ∧ TwoNew BkAt M T D y m g wb w (stS S x) w' := by
  obtain ⟨K, MM, NN⟩ := x
  have HT := Lib.hid hT
  have HS := Lib.hid hs
  have HBB := Lib.hid hB
  have HX := Lib.hid hx
  dsimp only at hk
  dsimp only at hn
  subst hk
  have HNN := Lib.hid hn
  have Bw0 := Below.refl w.heap.size w
  have HBX : Hid (stB ⟨1, MM, NN⟩ = blkL NN 64) := Lib.hid (by unfold stB; rw [if_neg hn])
  have HST : Hid (stS S ⟨1, MM, NN⟩ = wrT S MM (stB ⟨1, MM, NN⟩)) := Lib.hid (by unfold stS; rw [if_pos rfl])
  clear hT hs hB hx
  go_enter Try.func12, Try.ntmps12
  go_wp2_with (first
    | (have hgo := Bw0; clear hgo
       refine wpList_box_row rfl 34 (.tmp 2) rfl 3 (spF ⟨1, MM, NN⟩) rfl ?_
       intro sb w1 lk r_s kk
       have LS := Lib.hid lk
       have Bw1 := kk
       clear Bw0 kk lk)
    | (refine wpList_loadG 3 (.tmp 8) rfl rfl (.int .i64 1) r_s rfl (by omega) rfl (by kernel_rfl) ?_)
    | (refine wpList_loadG 3 (.tmp 12) rfl rfl (.int .i64 NN) r_s rfl (by omega) rfl (by kernel_rfl) ?_)
    | (have hgo := Bw1; clear hgo
       go_at_call 25
       refine (block2_any _ 64 NN (by decide)).mono ?_
       rintro e w2 ⟨v_b, rfl, o_b, kk⟩
       have r_s2 := Lib.hid (zrb r_s kk)
       have L2 := Lib.hid r_s.lt
       have BW1 := Lib.hid Bw1.size
       have Bw2 := Bw1.trans (kk.mono Bw1.size)
       clear Bw1 kk r_s
       have r_s := r_s2.out)
    | (refine wpList_loadG 3 (.tmp 15) rfl rfl (.int .i64 NN) r_s rfl (by omega) rfl (by kernel_rfl) ?_))
  have HTb := Lib.hid (Two.bel A HT.out Bw2)
  have HTL : Hid (∀ b, T b → b < w1.heap.size) := Lib.hid fun b hb => Nat.lt_of_lt_of_le (HT.out.ml b (HT.out.tm b hb)) BW1.out
  have HG : Hid (∀ w', Sam T w2 w' → Bs w' v_b (stB ⟨1, MM, NN⟩)) := Lib.hid (by rw [HBX.out]; exact fun w' s => (BsK.own (M := T) o_b HTL.out) w' s)
  have HSB : Hid (¬ turnT T m g wb sb) := Lib.hid (by
    have a := LS.out
    have b := HT.out.dv.lt
    rintro (h | rfl | rfl | rfl)
    · have := HT.out.ml sb (HT.out.tm sb h); omega
    · omega
    · omega
    · omega)
  have HEE := (Below.refl w2.heap.size w2)
  have HE : Sam (turnT T m g wb) w2 w2.drew := (Sam.refl _ _).drew
  refine wp_region_linE (Sam (turnT T m g wb)) (fun w => Sam.refl _ w) (fun _ _ _ h k => h.trans k) 12 11 (.rd 0 (.rd 1 (.rd 2 (.rd 3 (.rd 5 (.rd 6 (.rd 7 (.rd 8 (.wr 4 (.wr 9 (.rd 10 (.rd 11 .done)))))))))))) (by kernel_rfl) (by kernel_rfl) (by decide) (by kernel_rfl) (fun d _ _ _ _ h => by cases d <;> exact h) ?_
  refine lintz_pure 23 _ _ (.pointer (some ⟨y, 0, none⟩)) rfl rfl rfl rfl rfl (fun wx hx => by unfold mkOp; go_simp; all_goals (with_reducible rfl)) ?_
  simp only [Act.put, zA, zB, zC]
  refine lintz_pure 24 _ _ (.pointer (some ⟨sb, 1, none⟩)) rfl rfl rfl rfl rfl (fun wx hx => by unfold mkOp; go_simp; all_goals (with_reducible rfl)) ?_
  simp only [Act.put, zA, zB, zC]
  refine lintz_pure 25 _ _ (.int .i64 MM) rfl rfl rfl rfl rfl (fun wx hx => exec_load_cell _ _ _ _ rfl (by kernel_rfl) ((Sam.row r_s (HE.trans hx) HSB.out).cell (by omega))) ?_
  simp only [Act.put, zA, zB, zC]
  refine lintz_pure 26 _ _ (v_b) rfl rfl rfl rfl rfl (fun wx hx => by unfold mkOp; go_simp; all_goals (with_reducible rfl)) ?_
  simp only [Act.put, zA, zB, zC]
  refine lintz_pure 28 _ _ (.pointer (some ⟨m, 0, none⟩)) rfl rfl rfl rfl rfl (fun wx hx => by unfold mkOp; go_simp; all_goals (with_reducible rfl)) ?_
  simp only [Act.put, zA, zB, zC]
  refine lintz_pure 29 _ _ (.pointer (some ⟨sb, 1, none⟩)) rfl rfl rfl rfl rfl (fun wx hx => by unfold mkOp; go_simp; all_goals (with_reducible rfl)) ?_
  simp only [Act.put, zA, zB, zC]
  refine lintz_pure 30 _ _ (.int .i64 MM) rfl rfl rfl rfl rfl (fun wx hx => exec_load_cell _ _ _ _ rfl (by kernel_rfl) ((Sam.row r_s (HE.trans hx) HSB.out).cell (by omega))) ?_
  simp only [Act.put, zA, zB, zC]
  refine lintz_pure 31 _ _ (v_b) rfl rfl rfl rfl rfl (fun wx hx => by unfold mkOp; go_simp; all_goals (with_reducible rfl)) ?_
  simp only [Act.put, zA, zB, zC]
  refine stpz_fn (E := Sam (turnT T m g wb)) 27 19 _ _ _ (A.write T D _ y S B MM v_b (stB ⟨1, MM, NN⟩) (A.stay _ _ (fun _ => False) _ _ _ _ HTb.out.bk ((Sam.refl _ _).drew) (fun _ h => h.elim)) HS.out HBB.out (fun w' s => HG.out w' ((Sam.refl _ _).drew.trans s))) rfl rfl rfl rfl Try.func19 (by kernel_rfl) (by kernel_rfl) (by go_simp) ?_
  rintro e wz27 ⟨rfl, hn⟩
  obtain ⟨M1, T1, D1, hb1, hd1, s1, t1, l1, n1, n2, n3, m1, m2, t2, d2⟩ := Two.half A (Two.drew A HTb.out) hn
  refine ⟨_, rfl, s1, ?_⟩
  have HB1 := Lib.hid hb1
  have HD1 := Lib.hid hd1
  have S1 := Lib.hid s1
  have HJ := Lib.hid (And.intro t1 (And.intro l1 (And.intro n1 (And.intro n2 (And.intro n3 (And.intro m1 (And.intro m2 (And.intro t2 d2))))))))
  have STT := Lib.hid (bk_turn hn)
  clear hn hb1 hd1 s1 t1 l1 n1 n2 n3 m1 m2 t2 d2
  simp only [Act.put, zA, zB, zC]
  refine stpz_fn (E := Sam (turnT T m g wb)) 32 28 _ _ _ (devWrite_to M1 m g wb S B MM v_b (stB ⟨1, MM, NN⟩) _ HD1.out HS.out HBB.out (HG.out _ ((Sam.refl _ _).drew.trans STT.out)) HJ.out.2.1) rfl rfl rfl rfl Try.func28 (by kernel_rfl) (by kernel_rfl) (by go_simp) ?_
  rintro e wz32 ⟨rfl, hd2, s2⟩
  refine ⟨_, rfl, s2.mono (fun b _ h => .inr h), ?_⟩
  have HN := Lib.hid (two_join A HB1.out S1.out HJ.out.1 HJ.out.2.1 HJ.out.2.2.1 HJ.out.2.2.2.1 HJ.out.2.2.2.2.1 HJ.out.2.2.2.2.2.1 HJ.out.2.2.2.2.2.2.1 HJ.out.2.2.2.2.2.2.2.1 HJ.out.2.2.2.2.2.2.2.2 hd2 s2)
  clear hd2 s2
  simp only [Act.put, zA, zB, zC]
  refine lintz_pure 33 _ _ (.bool true) rfl rfl rfl rfl rfl (fun wx hx => by unfold mkOp; go_simp; all_goals (with_reducible rfl)) ?_
  simp only [Act.put, zA, zB, zC]
  refine lintz_pure 6 _ _ (.bool true) rfl rfl rfl rfl rfl (fun wx hx => by unfold mkOp; go_simp; all_goals (with_reducible rfl)) ?_
  simp only [Act.put, zA, zB, zC]
  refine linz_end ?_
  go_wp2
  go_ret
  exact ⟨rfl, by rw [HST.out]; exact TwoNew.aft A Bw2 (TwoNew.ofdrew HN.out)⟩
set_option maxHeartbeats 4000000 in
set_option maxRecDepth 20000 in
theorem does_w2 (M T D : Nat → Prop) (y m g wb : Nat) (w : World) (S : DS) (B : Nat) (x : Sp) (hT : Two BkAt M T D y m g wb w S) (hs : okD S B) (hB : B ≤ 100000) (hx : okSp x) (hk : x.k = 1) (hn : x.n < 0) : Calls Try.prog 12 #[.pointer (some ⟨y, 0, none⟩), .pointer (some ⟨m, 0, none⟩), .agg #[.int .i64 x.k, .int .i64 x.m, .int .i64 x.n]] w fun e w' => e = .returned (.bool true) ∧ TwoNew BkAt M T D y m g wb w (stS S x) w' := by
  obtain ⟨K, MM, NN⟩ := x
  have HT := Lib.hid hT
  have HS := Lib.hid hs
  have HBB := Lib.hid hB
  have HX := Lib.hid hx
  dsimp only at hk
  dsimp only at hn
  subst hk
  have HNN := Lib.hid hn
  have Bw0 := Below.refl w.heap.size w
  obtain ⟨r, hr⟩ : ∃ r : Nat, NN % 64 = (r : Int) := ⟨(NN % 64).toNat, by omega⟩
  have HR : Hid (NN % 64 = (r : Int) ∧ r < 64) := Lib.hid (by omega)
  have HBX : Hid (stB ⟨1, MM, NN⟩ = (blkL NN 64).take r) := Lib.hid (by unfold stB; rw [if_pos hn, hr]; rfl)
  have HNB := Lib.hid (bd_i64 hx.n)
  clear hr
  have HST : Hid (stS S ⟨1, MM, NN⟩ = wrT S MM (stB ⟨1, MM, NN⟩)) := Lib.hid (by unfold stS; rw [if_pos rfl])
  clear hT hs hB hx
  go_enter Try.func12, Try.ntmps12
  go_wp2_with (first
    | (have hgo := Bw0; clear hgo
       refine wpList_box_row rfl 34 (.tmp 2) rfl 3 (spF ⟨1, MM, NN⟩) rfl ?_
       intro sb w1 lk r_s kk
       have LS := Lib.hid lk
       have Bw1 := kk
       clear Bw0 kk lk)
    | (refine wpList_loadG 3 (.tmp 8) rfl rfl (.int .i64 1) r_s rfl (by omega) rfl (by kernel_rfl) ?_)
    | (refine wpList_loadG 3 (.tmp 12) rfl rfl (.int .i64 NN) r_s rfl (by omega) rfl (by kernel_rfl) ?_)
    | (have hgo := Bw1; clear hgo
       go_at_call 25
       refine (block2_any _ 64 NN (by decide)).mono ?_
       rintro e w2 ⟨v_b, rfl, o_b, kk⟩
       have r_s2 := Lib.hid (zrb r_s kk)
       have L2 := Lib.hid r_s.lt
       have BW1 := Lib.hid Bw1.size
       have Bw2 := Bw1.trans (kk.mono Bw1.size)
       clear Bw1 kk r_s
       have r_s := r_s2.out)
    | (refine wpList_loadG 3 (.tmp 15) rfl rfl (.int .i64 NN) r_s rfl (by omega) rfl (by kernel_rfl) ?_)
    | (refine wpList_loadG 3 (.tmp 19) rfl rfl (.int .i64 NN) r_s rfl (by omega) rfl (by kernel_rfl) ?_)
    | (have hgo := HR; clear hgo
       go_at_call 24
       refine (round_any NN 64 _ HNB.out.1 HNB.out.2 (by decide) (by decide)).mono ?_
       rintro e w3 ⟨rfl, h3⟩
       obtain rfl := h3.symm
       rw [HR.out.1])
    | (have hgo := o_b; clear hgo
       obtain ⟨v_t, g_t, e_t⟩ := wtakeO o_b r (by rw [blkL_len]; have := HR.out.2; omega)
       refine wpList_val2 (.slice 39 (.tmp 18) none (some (.tmp 21)) none) rfl rfl v_t (e_t _ _ _ _ _ rfl rfl) ?_
       clear e_t o_b))
  have HTb := Lib.hid (Two.bel A HT.out Bw2)
  have HTL : Hid (∀ b, T b → b < w1.heap.size) := Lib.hid fun b hb => Nat.lt_of_lt_of_le (HT.out.ml b (HT.out.tm b hb)) BW1.out
  have HG : Hid (∀ w', Sam T w2 w' → Bs w' v_t (stB ⟨1, MM, NN⟩)) := Lib.hid (by rw [HBX.out]; exact fun w' s => g_t T HTL.out w' s)
  have HSB : Hid (¬ turnT T m g wb sb) := Lib.hid (by
    have a := LS.out
    have b := HT.out.dv.lt
    rintro (h | rfl | rfl | rfl)
    · have := HT.out.ml sb (HT.out.tm sb h); omega
    · omega
    · omega
    · omega)
  have HEE := (Below.refl w2.heap.size w2)
  have HE : Sam (turnT T m g wb) w2 w2.drew := (Sam.refl _ _).drew
  refine wp_region_linE (Sam (turnT T m g wb)) (fun w => Sam.refl _ w) (fun _ _ _ h k => h.trans k) 12 11 (.rd 0 (.rd 1 (.rd 2 (.rd 3 (.rd 5 (.rd 6 (.rd 7 (.rd 8 (.wr 4 (.wr 9 (.rd 10 (.rd 11 .done)))))))))))) (by kernel_rfl) (by kernel_rfl) (by decide) (by kernel_rfl) (fun d _ _ _ _ h => by cases d <;> exact h) ?_
  refine lintz_pure 23 _ _ (.pointer (some ⟨y, 0, none⟩)) rfl rfl rfl rfl rfl (fun wx hx => by unfold mkOp; go_simp; all_goals (with_reducible rfl)) ?_
  simp only [Act.put, zA, zB, zC]
  refine lintz_pure 24 _ _ (.pointer (some ⟨sb, 1, none⟩)) rfl rfl rfl rfl rfl (fun wx hx => by unfold mkOp; go_simp; all_goals (with_reducible rfl)) ?_
  simp only [Act.put, zA, zB, zC]
  refine lintz_pure 25 _ _ (.int .i64 MM) rfl rfl rfl rfl rfl (fun wx hx => exec_load_cell _ _ _ _ rfl (by kernel_rfl) ((Sam.row r_s (HE.trans hx) HSB.out).cell (by omega))) ?_
  simp only [Act.put, zA, zB, zC]
  refine lintz_pure 26 _ _ (v_t) rfl rfl rfl rfl rfl (fun wx hx => by unfold mkOp; go_simp; all_goals (with_reducible rfl)) ?_
  simp only [Act.put, zA, zB, zC]
  refine lintz_pure 28 _ _ (.pointer (some ⟨m, 0, none⟩)) rfl rfl rfl rfl rfl (fun wx hx => by unfold mkOp; go_simp; all_goals (with_reducible rfl)) ?_
  simp only [Act.put, zA, zB, zC]
  refine lintz_pure 29 _ _ (.pointer (some ⟨sb, 1, none⟩)) rfl rfl rfl rfl rfl (fun wx hx => by unfold mkOp; go_simp; all_goals (with_reducible rfl)) ?_
  simp only [Act.put, zA, zB, zC]
  refine lintz_pure 30 _ _ (.int .i64 MM) rfl rfl rfl rfl rfl (fun wx hx => exec_load_cell _ _ _ _ rfl (by kernel_rfl) ((Sam.row r_s (HE.trans hx) HSB.out).cell (by omega))) ?_
  simp only [Act.put, zA, zB, zC]
  refine lintz_pure 31 _ _ (v_t) rfl rfl rfl rfl rfl (fun wx hx => by unfold mkOp; go_simp; all_goals (with_reducible rfl)) ?_
  simp only [Act.put, zA, zB, zC]
  refine stpz_fn (E := Sam (turnT T m g wb)) 27 19 _ _ _ (A.write T D _ y S B MM v_t (stB ⟨1, MM, NN⟩) (A.stay _ _ (fun _ => False) _ _ _ _ HTb.out.bk ((Sam.refl _ _).drew) (fun _ h => h.elim)) HS.out HBB.out (fun w' s => HG.out w' ((Sam.refl _ _).drew.trans s))) rfl rfl rfl rfl Try.func19 (by kernel_rfl) (by kernel_rfl) (by go_simp) ?_
  rintro e wz27 ⟨rfl, hn⟩
  obtain ⟨M1, T1, D1, hb1, hd1, s1, t1, l1, n1, n2, n3, m1, m2, t2, d2⟩ := Two.half A (Two.drew A HTb.out) hn
  refine ⟨_, rfl, s1, ?_⟩
  have HB1 := Lib.hid hb1
  have HD1 := Lib.hid hd1
  have S1 := Lib.hid s1
  have HJ := Lib.hid (And.intro t1 (And.intro l1 (And.intro n1 (And.intro n2 (And.intro n3 (And.intro m1 (And.intro m2 (And.intro t2 d2))))))))
  have STT := Lib.hid (bk_turn hn)
  clear hn hb1 hd1 s1 t1 l1 n1 n2 n3 m1 m2 t2 d2
  simp only [Act.put, zA, zB, zC]
  refine stpz_fn (E := Sam (turnT T m g wb)) 32 28 _ _ _ (devWrite_to M1 m g wb S B MM v_t (stB ⟨1, MM, NN⟩) _ HD1.out HS.out HBB.out (HG.out _ ((Sam.refl _ _).drew.trans STT.out)) HJ.out.2.1) rfl rfl rfl rfl Try.func28 (by kernel_rfl) (by kernel_rfl) (by go_simp) ?_
  rintro e wz32 ⟨rfl, hd2, s2⟩
  refine ⟨_, rfl, s2.mono (fun b _ h => .inr h), ?_⟩
  have HN := Lib.hid (two_join A HB1.out S1.out HJ.out.1 HJ.out.2.1 HJ.out.2.2.1 HJ.out.2.2.2.1 HJ.out.2.2.2.2.1 HJ.out.2.2.2.2.2.1 HJ.out.2.2.2.2.2.2.1 HJ.out.2.2.2.2.2.2.2.1 HJ.out.2.2.2.2.2.2.2.2 hd2 s2)
  clear hd2 s2
  simp only [Act.put, zA, zB, zC]
  refine lintz_pure 33 _ _ (.bool true) rfl rfl rfl rfl rfl (fun wx hx => by unfold mkOp; go_simp; all_goals (with_reducible rfl)) ?_
  simp only [Act.put, zA, zB, zC]
  refine lintz_pure 6 _ _ (.bool true) rfl rfl rfl rfl rfl (fun wx hx => by unfold mkOp; go_simp; all_goals (with_reducible rfl)) ?_
  simp only [Act.put, zA, zB, zC]
  refine linz_end ?_
  go_wp2
  go_ret
  exact ⟨rfl, by rw [HST.out]; exact TwoNew.aft A Bw2 (TwoNew.ofdrew HN.out)⟩
end
end Go.Proofs.Ytpilfjdhpahphaa

/- Chapter 15's statements over a device that is but promised: does, whole; shows. -/
namespace Go.Proofs.Ytpilfjdhpahphaa
open Go.RowKit Go.Deep
set_option linter.unusedSimpArgs false
set_option linter.unusedVariables false

section
variable {BkAt : (Nat → Prop) → (Nat → Prop) → World → Nat → DS → Prop} (A : BkApi BkAt)
include A
set_option maxHeartbeats 4000000 in
set_option maxRecDepth 20000 in
theorem does_f (M T D : Nat → Prop) (y m g wb : Nat) (w : World) (S : DS) (B : Nat) (x : Sp) (hT : Two BkAt M T D y m g wb w S) (hs : okD S B) (hB : B ≤ 100000) (hx : okSp x) (hk : x.k = 2) : Calls Try.prog 12 #[.pointer (some ⟨y, 0, none⟩), .pointer (some ⟨m, 0, none⟩), .agg #[.int .i64 x.k, .int .i64 x.m, .int .i64 x.n]] w fun e w' => e = .returned (.bool true) ∧ TwoNew BkAt M T D y m g wb w (stS S x) w' := by
  obtain ⟨K, MM, NN⟩ := x
  have HT := Lib.hid hT
  have HS := Lib.hid hs
  have HBB := Lib.hid hB
  have HX := Lib.hid hx
  dsimp only at hk
  subst hk
  have HST : Hid (stS S ⟨2, MM, NN⟩ = flT S) := Lib.hid (by unfold stS; rfl)
  have Bw0 := Below.refl w.heap.size w
  clear hT hs hB hx
  go_enter Try.func12, Try.ntmps12
  go_wp2_with (first
    | (have hgo := Bw0; clear hgo
       refine wpList_box_row rfl 34 (.tmp 2) rfl 3 (spF ⟨2, MM, NN⟩) rfl ?_
       intro sb w1 lk r_s kk
       have LS := Lib.hid lk
       have Bw1 := kk
       clear Bw0 kk lk)
    | (refine wpList_loadG 3 (.tmp 8) rfl rfl (.int .i64 2) r_s rfl (by omega) rfl (by kernel_rfl) ?_)
    | (have hgo := Bw1; clear hgo
       go_at_call 20
       have HTb := Lib.hid (Two.bel A HT.out Bw1)
       refine (A.flush T D _ y S B HTb.out.bk HS.out HBB.out).mono ?_
       rintro e w2 ⟨rfl, hn⟩
       obtain ⟨M1, T1, D1, hb1, hd1, s1, t1, l1, n1, n2, n3, m1, m2, t2, d2⟩ := Two.half A HTb.out hn
       have HB1 := Lib.hid hb1
       have HD1 := Lib.hid hd1
       have S1 := Lib.hid s1
       have HJ := Lib.hid (And.intro t1 (And.intro l1 (And.intro n1 (And.intro n2 (And.intro n3 (And.intro m1 (And.intro m2 (And.intro t2 d2))))))))
       clear hn hb1 hd1 t1 l1 n1 n2 n3 m1 m2 t2 d2
       have B1 := Lib.hid Bw1
       clear Bw1 s1)
    | (have hgo := HJ; clear hgo
       go_at_call 29
       refine (devFlush_to M1 m g wb S B _ HD1.out HS.out HBB.out).mono ?_
       rintro e w3 ⟨rfl, hd2, s2⟩
       have HN := Lib.hid (two_join A HB1.out S1.out HJ.out.1 HJ.out.2.1 HJ.out.2.2.1 HJ.out.2.2.2.1 HJ.out.2.2.2.2.1 HJ.out.2.2.2.2.2.1 HJ.out.2.2.2.2.2.2.1 HJ.out.2.2.2.2.2.2.2.1 HJ.out.2.2.2.2.2.2.2.2 hd2 s2)
       clear HJ hd2 s2))
  go_ret
  exact ⟨by simp, by rw [HST.out]; exact TwoNew.aft A B1.out HN.out⟩
set_option maxHeartbeats 4000000 in
set_option maxRecDepth 20000 in
theorem does_c (M T D : Nat → Prop) (y m g wb : Nat) (w : World) (S : DS) (B : Nat) (x : Sp) (hT : Two BkAt M T D y m g wb w S) (hs : okD S B) (hB : B ≤ 100000) (hx : okSp x) (hk : x.k = 3) : Calls Try.prog 12 #[.pointer (some ⟨y, 0, none⟩), .pointer (some ⟨m, 0, none⟩), .agg #[.int .i64 x.k, .int .i64 x.m, .int .i64 x.n]] w fun e w' => e = .returned (.bool true) ∧ TwoNew BkAt M T D y m g wb w (stS S x) w' := by
  obtain ⟨K, MM, NN⟩ := x
  have HT := Lib.hid hT
  have HS := Lib.hid hs
  have HBB := Lib.hid hB
  have HX := Lib.hid hx
  dsimp only at hk
  subst hk
  have HST : Hid (stS S ⟨3, MM, NN⟩ = cutS S MM) := Lib.hid (by unfold stS; rfl)
  have Bw0 := Below.refl w.heap.size w
  clear hT hs hB hx
  go_enter Try.func12, Try.ntmps12
  go_wp2_with (first
    | (have hgo := Bw0; clear hgo
       refine wpList_box_row rfl 34 (.tmp 2) rfl 3 (spF ⟨3, MM, NN⟩) rfl ?_
       intro sb w1 lk r_s kk
       have LS := Lib.hid lk
       have Bw1 := kk
       clear Bw0 kk lk)
    | (refine wpList_loadG 3 (.tmp 8) rfl rfl (.int .i64 3) r_s rfl (by omega) rfl (by kernel_rfl) ?_)
    | (have hgo := Bw1; clear hgo
       refine wpList_loadG 3 (.tmp 44) rfl rfl (.int .i64 MM) r_s rfl (by omega) rfl (by kernel_rfl) ?_)
    | (have hgo := Bw1; clear hgo
       go_at_call 23
       have HTb := Lib.hid (Two.bel A HT.out Bw1)
       have HSB : Hid (¬ turnT T m g wb sb) := Lib.hid (by have a := LS.out; have b := HT.out.dv.lt; rintro (h | rfl | rfl | rfl) <;> first | (have := HT.out.ml sb (HT.out.tm sb h); omega) | omega)
       refine (A.cut T D _ y S MM HTb.out.bk).mono ?_
       rintro e w2 ⟨rfl, hn⟩
       obtain ⟨M1, T1, D1, hb1, hd1, s1, t1, l1, n1, n2, n3, m1, m2, t2, d2⟩ := Two.half A HTb.out hn
       have HB1 := Lib.hid hb1
       have HD1 := Lib.hid hd1
       have S1 := Lib.hid s1
       have HJ := Lib.hid (And.intro t1 (And.intro l1 (And.intro n1 (And.intro n2 (And.intro n3 (And.intro m1 (And.intro m2 (And.intro t2 d2))))))))
       clear hn hb1 hd1 t1 l1 n1 n2 n3 m1 m2 t2 d2
       replace r_s := Sam.row r_s s1 HSB.out
       have B1 := Lib.hid Bw1
       clear Bw1 s1)
    | (have hgo := HJ; clear hgo
       refine wpList_loadG 3 (.tmp 48) rfl rfl (.int .i64 MM) r_s rfl (by omega) rfl (by kernel_rfl) ?_)
    | (have hgo := HJ; clear hgo
       go_at_call 30
       refine (devCut_any M1 m g wb S MM _ HD1.out).mono ?_
       rintro e w3 ⟨rfl, hd2, s2⟩
       have HN := Lib.hid (two_join A HB1.out S1.out HJ.out.1 HJ.out.2.1 HJ.out.2.2.1 HJ.out.2.2.2.1 HJ.out.2.2.2.2.1 HJ.out.2.2.2.2.2.1 HJ.out.2.2.2.2.2.2.1 HJ.out.2.2.2.2.2.2.2.1 HJ.out.2.2.2.2.2.2.2.2 hd2 (s2.mono fun b _ h => .inl h))
       clear HJ hd2 s2))
  go_ret
  exact ⟨rfl, by rw [HST.out]; exact TwoNew.aft A B1.out HN.out⟩
set_option maxHeartbeats 4000000 in
set_option maxRecDepth 20000 in
theorem does_o (M T D : Nat → Prop) (y m g wb : Nat) (w : World) (S : DS) (B : Nat) (x : Sp) (hT : Two BkAt M T D y m g wb w S) (hs : okD S B) (hB : B ≤ 100000) (hx : okSp x) (hk : x.k ≠ 1 ∧ x.k ≠ 2 ∧ x.k ≠ 3) : Calls Try.prog 12 #[.pointer (some ⟨y, 0, none⟩), .pointer (some ⟨m, 0, none⟩), .agg #[.int .i64 x.k, .int .i64 x.m, .int .i64 x.n]] w fun e w' => e = .returned (.bool true) ∧ TwoNew BkAt M T D y m g wb w (stS S x) w' := by
  obtain ⟨K, MM, NN⟩ := x
  have HT := Lib.hid hT
  have HS := Lib.hid hs
  have HBB := Lib.hid hB
  have HX := Lib.hid hx
  dsimp only at hk
  have e1 : (K == 1) = false := by simpa using hk.1
  have e2 : (K == 2) = false := by simpa using hk.2.1
  have e3 : (K == 3) = false := by simpa using hk.2.2
  have HST : Hid (stS S ⟨K, MM, NN⟩ = S) := Lib.hid (by unfold stS; rw [if_neg hk.1, if_neg hk.2.1, if_neg hk.2.2])
  clear hk
  have Bw0 := Below.refl w.heap.size w
  clear hT hs hB hx
  go_enter Try.func12, Try.ntmps12
  go_wp2_with (first
    | (have hgo := Bw0; clear hgo
       refine wpList_box_row rfl 34 (.tmp 2) rfl 3 (spF ⟨K, MM, NN⟩) rfl ?_
       intro sb w1 lk r_s kk
       have LS := Lib.hid lk
       have Bw1 := kk
       clear Bw0 kk lk)
    | (refine wpList_loadG 3 (.tmp 8) rfl rfl (.int .i64 K) r_s rfl (by omega) rfl (by kernel_rfl) ?_))
  go_ret
  exact ⟨rfl, by rw [HST.out]; exact TwoNew.same A HT.out Bw1⟩
theorem does_any (M T D : Nat → Prop) (y m g wb : Nat) (w : World) (S : DS) (B : Nat) (x : Sp) (hT : Two BkAt M T D y m g wb w S) (hs : okD S B) (hB : B ≤ 100000) (hx : okSp x) : Calls Try.prog 12 #[.pointer (some ⟨y, 0, none⟩), .pointer (some ⟨m, 0, none⟩), .agg #[.int .i64 x.k, .int .i64 x.m, .int .i64 x.n]] w fun e w' => e = .returned (.bool true) ∧ TwoNew BkAt M T D y m g wb w (stS S x) w' := by
  by_cases h1 : x.k = 1
  · by_cases hn : x.n < 0
    · exact does_w2 A M T D y m g wb w S B x hT hs hB hx h1 hn
    · exact does_w1 A M T D y m g wb w S B x hT hs hB hx h1 hn
  · by_cases h2 : x.k = 2
    · exact does_f A M T D y m g wb w S B x hT hs hB hx h2
    · by_cases h3 : x.k = 3
      · exact does_c A M T D y m g wb w S B x hT hs hB hx h3
      · exact does_o A M T D y m g wb w S B x hT hs hB hx ⟨h1, h2, h3⟩
end
end Go.Proofs.Ytpilfjdhpahphaa

/- Chapter 15's statements over a device that is but promised: shows. -/
namespace Go.Proofs.Ytpilfjdhpahphaa
open Go.RowKit Go.Deep
set_option linter.unusedSimpArgs false
set_option linter.unusedVariables false

theorem exec_strN {w : World} (ρ : Operand → Value) (x y : Operand) (t : TypeId) {l : List UInt8} (hx : ρ x = .string ⟨l.toArray⟩) (hy : ρ y = .string ⟨l.toArray⟩) : (execOp ρ (mkOp (.binOp .neq 9 x y 9) t)).run Try.prog w = .ok (.value (.bool false)) w := by
  simp only [execOp, mkOp, hx, hy]
  all_goals go_simp
theorem now_to (M : Nat → Prop) (m g wb : Nat) (S : DS) (B k : Nat) (w : World) (h : DevAt M m g wb w S) (hs : okD S B) (hB : B ≤ 100000) (hk : k < S.n) : Calls Try.prog 36 #[.pointer (some ⟨m, 0, none⟩), .int .i64 (k : Int)] w fun e w' => ∃ v, e = .returned v ∧ Bs w' v (nowS S k) ∧ Below w.heap.size w w' := by
  refine (devNow_any M m g wb S k w h hk hs.n (by have := hs.cnt k; omega)).mono ?_
  rintro e w' ⟨v, h1, h2, rfl⟩
  exact ⟨v, h1, h2.bs, Below.refl _ _⟩
section
variable {BkAt : (Nat → Prop) → (Nat → Prop) → World → Nat → DS → Prop} (A : BkApi BkAt)
include A
theorem read_to (T D : Nat → Prop) (w : World) (y : Nat) (S : DS) (B k : Nat) (h : BkAt T D w y S) (hs : okD S B) (hB : B ≤ 100000) (hk : k < S.n) : Calls Try.prog 16 #[.pointer (some ⟨y, 0, none⟩), .int .i64 (k : Int)] w fun e w' => ∃ v, e = .returned (.tuple #[v, .int .i64 0]) ∧ Bs w' v (nowS S k) ∧ Below w.heap.size w w' := by
  have g := A.read T D w y S B k h hs hB
  rw [if_pos (by omega), if_pos (by omega)] at g
  simpa using g
theorem read_no (T D : Nat → Prop) (w : World) (y : Nat) (S : DS) (B : Nat) (k : Int) (h : BkAt T D w y S) (hs : okD S B) (hB : B ≤ 100000) (hk : ¬ (0 ≤ k ∧ k < (S.n : Int))) : Calls Try.prog 16 #[.pointer (some ⟨y, 0, none⟩), .int .i64 k] w fun e w' => ∃ v, e = .returned (.tuple #[v, .int .i64 1]) ∧ Below w.heap.size w w' := by
  have g := A.read T D w y S B k h hs hB
  rw [if_neg hk, if_neg hk] at g
  refine g.mono ?_
  rintro e w' ⟨v, h1, h2, h3⟩
  exact ⟨v, h1, h3⟩
set_option maxHeartbeats 4000000 in
set_option maxRecDepth 20000 in
theorem shows_any (M T D : Nat → Prop) (y m g wb : Nat) (w : World) (S : DS) (B : Nat) (hT : Two BkAt M T D y m g wb w S) (hs : okD S B) (hB : B ≤ 100000) : Calls Try.prog 14 #[.pointer (some ⟨y, 0, none⟩), .pointer (some ⟨m, 0, none⟩)] w fun e w' => e = .returned (.bool true) ∧ Below w.heap.size w w' := by
  have h_b := hT
  obtain ⟨gc, wc, gf, wf, r_m, hr⟩ := hT.dv
  have HT := Lib.hid hT
  have HS := Lib.hid hs
  have HBB := Lib.hid hB
  obtain ⟨N, hN⟩ : ∃ N, N = S.n := ⟨_, rfl⟩
  obtain ⟨OPS, hO⟩ : ∃ O, O = S.ops := ⟨_, rfl⟩
  obtain ⟨OFF, hF⟩ : ∃ O, O = S.off := ⟨_, rfl⟩
  rw [← hN, ← hO, ← hF] at r_m
  have HN := Lib.hid hN
  have HNB : Hid (N ≤ 65536) := Lib.hid (by rw [hN]; exact hs.n)
  have HLEN := Lib.hid fun (T D : Nat → Prop) (w : World) (h : BkAt T D w y S) => A.len T D w y S B h hs
  have HOPS := Lib.hid fun (T D : Nat → Prop) (w : World) (h : BkAt T D w y S) => A.ops T D w y S B h hs
  have HOFF := Lib.hid fun (T D : Nat → Prop) (w : World) (h : BkAt T D w y S) => A.off T D w y S B h hs
  rw [← hN] at HLEN
  rw [← hO] at HOPS
  rw [← hF] at HOFF
  have HGS : Hid (∀ wq : World, Below w.heap.size w wq → w.heap.size ≤ wq.heap.size) := Lib.hid fun wq h => h.size
  have RM := Lib.hid r_m
  have Bw0 := Below.refl w.heap.size w
  clear hT hs hB hr hN hO hF
  go_enter Try.func14, Try.ntmps14
  go_wp2
  replace h_b := Two.drew A h_b
  replace r_m := r_m.drew
  have Bw1 := Bw0.drew
  clear Bw0
  refine wp_region_lint (.rd 0 (.rd 2 (.rd 3 (.rd 4 (.rd 5 (.rd 6 (.wr 1 (.rd 7 (.rd 8 (.rd 9 (.rd 11 (.rd 12 (.rd 13 (.rd 14 (.wr 10 (.rd 15 (.rd 16 (.rd 17 (.rd 18 (.rd 20 (.rd 21 (.rd 22 (.rd 23 (.wr 19 (.rd 24 (.rd 25 .done)))))))))))))))))))))))))) (by kernel_rfl) (by kernel_rfl) (by decide) (by kernel_rfl) (fun d _ _ _ _ h => by cases d <;> exact h) ?_
  refine lint_pure 12 _ _ (.pointer (some ⟨y, 0, none⟩)) rfl rfl rfl rfl rfl (fun wx hx => by unfold mkOp; go_simp; all_goals (with_reducible rfl)) ?_
  simp only [Act.put, zA, zB, zC]
  refine lint_pure 14 _ _ (.pointer (some ⟨m, 0, none⟩)) rfl rfl rfl rfl rfl (fun wx hx => by unfold mkOp; go_simp; all_goals (with_reducible rfl)) ?_
  simp only [Act.put, zA, zB, zC]
  refine lint_pure 15 _ _ (.pointer (some ⟨m, 0, none⟩)) rfl rfl rfl rfl rfl (fun wx hx => by unfold mkOp; go_simp; all_goals (with_reducible rfl)) ?_
  simp only [Act.put, zA, zB, zC]
  refine lint_pure 16 _ _ (.pointer (some ⟨m, 0, none⟩)) rfl rfl rfl rfl rfl (fun wx hx => by unfold mkOp; go_simp; all_goals (with_reducible rfl)) ?_
  simp only [Act.put, zA, zB, zC]
  refine lint_pure 17 _ _ (.slice (some ⟨g, 0, none⟩) N gc) rfl rfl rfl rfl rfl (fun wx hx => exec_load_cell _ _ _ _ rfl (by kernel_rfl) ((zrb r_m hx).cell (by omega))) ?_
  simp only [Act.put, zA, zB, zC]
  refine lint_pure 18 _ _ (.int .i64 (N : Int)) rfl rfl rfl rfl rfl (fun wx hx => by unfold mkOp; go_simp; all_goals (with_reducible rfl)) ?_
  simp only [Act.put, zA, zB, zC]
  refine stp_fn 13 22 _ _ _ (HLEN.out T D _ h_b.bk) rfl rfl rfl rfl Try.func22 (by kernel_rfl) (by kernel_rfl) (by go_simp) ?_
  rintro e wq13 ⟨rfl, kk⟩
  refine ⟨_, rfl, kk, ?_⟩
  replace h_b := Two.bel A h_b kk
  replace r_m := zrb r_m kk
  have Bw2 := zbt HGS Bw1 kk
  clear Bw1 kk
  simp only [Act.put, zA, zB, zC]
  refine lint_pure 19 _ _ (.bool false) rfl rfl rfl rfl rfl (fun wx hx => by unfold mkOp; go_simp; all_goals (with_reducible rfl)) ?_
  simp only [Act.put, zA, zB, zC]
  refine lint_pure 20 _ _ (.bool false) rfl rfl rfl rfl rfl (fun wx hx => by unfold mkOp; go_simp; all_goals (with_reducible rfl)) ?_
  simp only [Act.put, zA, zB, zC]
  refine lint_pure 21 _ _ (.pointer (some ⟨y, 0, none⟩)) rfl rfl rfl rfl rfl (fun wx hx => by unfold mkOp; go_simp; all_goals (with_reducible rfl)) ?_
  simp only [Act.put, zA, zB, zC]
  refine lint_pure 23 _ _ (.pointer (some ⟨m, 0, none⟩)) rfl rfl rfl rfl rfl (fun wx hx => by unfold mkOp; go_simp; all_goals (with_reducible rfl)) ?_
  simp only [Act.put, zA, zB, zC]
  refine lint_pure 24 _ _ (.pointer (some ⟨m, 0, none⟩)) rfl rfl rfl rfl rfl (fun wx hx => by unfold mkOp; go_simp; all_goals (with_reducible rfl)) ?_
  simp only [Act.put, zA, zB, zC]
  refine lint_pure 25 _ _ (.pointer (some ⟨m, 2, none⟩)) rfl rfl rfl rfl rfl (fun wx hx => by unfold mkOp; go_simp; all_goals (with_reducible rfl)) ?_
  simp only [Act.put, zA, zB, zC]
  refine lint_pure 26 _ _ (.int .i64 (OPS : Int)) rfl rfl rfl rfl rfl (fun wx hx => exec_load_cell _ _ _ _ rfl (by kernel_rfl) ((zrb r_m hx).cell (by omega))) ?_
  simp only [Act.put, zA, zB, zC]
  refine stp_fn 22 26 _ _ _ (HOPS.out T D _ h_b.bk) rfl rfl rfl rfl Try.func26 (by kernel_rfl) (by kernel_rfl) (by go_simp) ?_
  rintro e wq22 ⟨rfl, kk⟩
  refine ⟨_, rfl, kk, ?_⟩
  replace h_b := Two.bel A h_b kk
  replace r_m := zrb r_m kk
  have Bw3 := zbt HGS Bw2 kk
  clear Bw2 kk
  simp only [Act.put, zA, zB, zC]
  refine lint_pure 27 _ _ (.bool false) rfl rfl rfl rfl rfl (fun wx hx => by unfold mkOp; go_simp; all_goals (with_reducible rfl)) ?_
  simp only [Act.put, zA, zB, zC]
  refine lint_pure 28 _ _ (.bool false) rfl rfl rfl rfl rfl (fun wx hx => by unfold mkOp; go_simp; all_goals (with_reducible rfl)) ?_
  simp only [Act.put, zA, zB, zC]
  refine lint_pure 29 _ _ (.bool false) rfl rfl rfl rfl rfl (fun wx hx => by unfold mkOp; go_simp; all_goals (with_reducible rfl)) ?_
  simp only [Act.put, zA, zB, zC]
  refine lint_pure 30 _ _ (.pointer (some ⟨y, 0, none⟩)) rfl rfl rfl rfl rfl (fun wx hx => by unfold mkOp; go_simp; all_goals (with_reducible rfl)) ?_
  simp only [Act.put, zA, zB, zC]
  refine lint_pure 32 _ _ (.pointer (some ⟨m, 0, none⟩)) rfl rfl rfl rfl rfl (fun wx hx => by unfold mkOp; go_simp; all_goals (with_reducible rfl)) ?_
  simp only [Act.put, zA, zB, zC]
  refine lint_pure 33 _ _ (.pointer (some ⟨m, 0, none⟩)) rfl rfl rfl rfl rfl (fun wx hx => by unfold mkOp; go_simp; all_goals (with_reducible rfl)) ?_
  simp only [Act.put, zA, zB, zC]
  refine lint_pure 34 _ _ (.pointer (some ⟨m, 5, none⟩)) rfl rfl rfl rfl rfl (fun wx hx => by unfold mkOp; go_simp; all_goals (with_reducible rfl)) ?_
  simp only [Act.put, zA, zB, zC]
  refine lint_pure 35 _ _ (.bool OFF) rfl rfl rfl rfl rfl (fun wx hx => exec_load_cell _ _ _ _ rfl (by kernel_rfl) ((zrb r_m hx).cell (by omega))) ?_
  simp only [Act.put, zA, zB, zC]
  refine stp_fn 31 21 _ _ _ (HOFF.out T D _ h_b.bk) rfl rfl rfl rfl Try.func21 (by kernel_rfl) (by kernel_rfl) (by go_simp) ?_
  rintro e wq31 ⟨rfl, kk⟩
  refine ⟨_, rfl, kk, ?_⟩
  replace h_b := Two.bel A h_b kk
  replace r_m := zrb r_m kk
  have Bw4 := zbt HGS Bw3 kk
  clear Bw3 kk
  simp only [Act.put, zA, zB, zC]
  refine lint_pure 36 _ _ (.bool false) rfl rfl rfl rfl rfl (fun wx hx => by unfold mkOp; go_simp; all_goals first | (with_reducible rfl) | (cases OFF <;> rfl)) ?_
  simp only [Act.put, zA, zB, zC]
  refine lint_pure 37 _ _ (.bool false) rfl rfl rfl rfl rfl (fun wx hx => by unfold mkOp; go_simp; all_goals (with_reducible rfl)) ?_
  simp only [Act.put, zA, zB, zC]
  refine lint_end ?_
  go_wp2
  go_loopw [5] (fun kv wr => ∃ k : Nat, k ≤ N ∧ kv = .int .i64 (k : Int) ∧ Below w.heap.size w wr) (fun kv _ => N - (intOf kv).toNat)
  case atStart => exact ⟨0, Nat.zero_le _, rfl, Bw4⟩
  case round =>
    clear r_m h_b Bw4
    obtain ⟨k, hk, rfl, Bw0⟩ := hrel
    have h_b := Two.bel A HT.out Bw0
    have r_m := zrb RM.out Bw0
    by_cases hlt : k < N
    · have hkI : (k : Int) < (N : Int) := by omega
      have HK : Hid (k < S.n) := Lib.hid (by rw [← HN.out]; exact hlt)
      have HKN := Lib.hid hlt
      obtain ⟨k1, hk1⟩ := nat_var (k + 1)
      have e5 : IntKind.i64.wrap ((k : Int) + 1) = (k1 : Int) := by rw [IntWalk.i64_in _ (by have := HNB.out; omega)]; omega
      have HK1 := Lib.hid hk1
      clear hk hlt hk1
      go_wp2_with (first
        | (have hgo := Bw0; clear hgo
           refine wpList_loadG 42 (.tmp 41) rfl rfl (.slice (some ⟨g, 0, none⟩) N gc) r_m rfl (by omega) rfl (by kernel_rfl) ?_)
        | (have hgo := Bw0; clear hgo
           go_at_call 16
           refine (read_to A T D _ y S B k h_b.bk HS.out HBB.out HK.out).mono ?_
           rintro e w5 ⟨v_r, rfl, f_r, kk⟩
           replace h_b := Two.bel A h_b kk
           replace r_m := zrb r_m kk
           have Bw1 := zbt HGS Bw0 kk
           clear Bw0 kk))
      replace h_b := Two.drew A h_b
      replace r_m := r_m.drew
      replace f_r := f_r.drew
      have Bw2 := Bw1.drew
      clear Bw1
      refine wp_region_lint (.rd 0 (.rd 1 (.rd 2 (.rd 3 (.rd 4 (.rd 5 (.rd 6 (.wr 7 (.rd 8 (.rd 9 (.rd 10 .done))))))))))) (by kernel_rfl) (by kernel_rfl) (by decide) (by kernel_rfl) (fun d _ _ _ _ h => by cases d <;> exact h) ?_
      refine lint_pure 53 _ _ (.int .i64 0) rfl rfl rfl rfl rfl (fun wx hx => by unfold mkOp; go_simp; all_goals (with_reducible rfl)) ?_
      simp only [Act.put, zA, zB, zC]
      refine lint_pure 54 _ _ (.bool false) rfl rfl rfl rfl rfl (fun wx hx => by unfold mkOp; go_simp; all_goals (with_reducible rfl)) ?_
      simp only [Act.put, zA, zB, zC]
      refine lint_pure 55 _ _ (.bool false) rfl rfl rfl rfl rfl (fun wx hx => by unfold mkOp; go_simp; all_goals (with_reducible rfl)) ?_
      simp only [Act.put, zA, zB, zC]
      refine lint_pure 56 _ _ (v_r) rfl rfl rfl rfl rfl (fun wx hx => by unfold mkOp; go_simp; all_goals (with_reducible rfl)) ?_
      simp only [Act.put, zA, zB, zC]
      refine lint_conv 57 (.tmp 56) _ _ rfl rfl rfl rfl rfl f_r ?_
      simp only [Act.put, zA, zB, zC]
      refine lint_pure 58 _ _ (.pointer (some ⟨m, 0, none⟩)) rfl rfl rfl rfl rfl (fun wx hx => by unfold mkOp; go_simp; all_goals (with_reducible rfl)) ?_
      simp only [Act.put, zA, zB, zC]
      refine lint_pure 59 _ _ (.int .i64 (k : Int)) rfl rfl rfl rfl rfl (fun wx hx => by unfold mkOp; go_simp; all_goals (with_reducible rfl)) ?_
      simp only [Act.put, zA, zB, zC]
      refine stp_fn 60 36 _ _ _ (now_to M m g wb S B k _ h_b.dv HS.out HBB.out HK.out) rfl rfl rfl rfl Try.func36 (by kernel_rfl) (by kernel_rfl) (by go_simp) ?_
      rintro e wq60 ⟨v_60, rfl, f_60, kk⟩
      refine ⟨_, rfl, kk, ?_⟩
      replace h_b := Two.bel A h_b kk
      replace r_m := zrb r_m kk
      replace f_r := zfb f_r kk
      have Bw3 := zbt HGS Bw2 kk
      clear Bw2 kk
      simp only [Act.put, zA, zB, zC]
      refine lint_conv 61 (.tmp 60) _ _ rfl rfl rfl rfl rfl f_60 ?_
      simp only [Act.put, zA, zB, zC]
      refine lint_pure 62 _ _ (.bool false) rfl rfl rfl rfl rfl (fun wx hx => exec_strN _ _ _ _ rfl rfl) ?_
      simp only [Act.put, zA, zB, zC]
      refine lint_pure 63 _ _ (.bool false) rfl rfl rfl rfl rfl (fun wx hx => by unfold mkOp; go_simp; all_goals (with_reducible rfl)) ?_
      simp only [Act.put, zA, zB, zC]
      refine lint_end ?_
      go_wp2
      go_roundw
      case rel => exact ⟨k + 1, HKN.out, by rw [HK1.out], Bw3⟩
      case measure => (have := HK1.out; have := HKN.out; simp [intOf]; try omega)
    · obtain rfl : k = N := by omega
      have hkI : ¬ (k : Int) < (k : Int) := by omega
      have HNO : Hid (¬ (0 ≤ (k : Int) ∧ (k : Int) < (S.n : Int))) := Lib.hid (by rw [← HN.out]; omega)
      clear hlt hk
      go_wp2_with (first
        | (have hgo := Bw0; clear hgo
           refine wpList_loadG 42 (.tmp 41) rfl rfl (.slice (some ⟨g, 0, none⟩) k gc) r_m rfl (by omega) rfl (by kernel_rfl) ?_)
        | (have hgo := Bw0; clear hgo
           go_at_call 16
           refine (read_no A T D _ y S B (-1) h_b.bk HS.out HBB.out (by omega)).mono ?_
           rintro e w5 ⟨v_r, rfl, kk⟩
           replace h_b := Two.bel A h_b kk
           replace r_m := zrb r_m kk
           have Bw1 := zbt HGS Bw0 kk
           clear Bw0 kk)
        | (have hgo := Bw1; clear hgo
           refine wpList_loadG 42 (.tmp 73) rfl rfl (.slice (some ⟨g, 0, none⟩) k gc) r_m rfl (by omega) rfl (by kernel_rfl) ?_)
        | (have hgo := Bw1; clear hgo
           go_at_call 16
           refine (read_no A T D _ y S B (k : Int) h_b.bk HS.out HBB.out HNO.out).mono ?_
           rintro e w6 ⟨v_q, rfl, kk⟩
           have Bw2 := zbt HGS Bw1 kk
           clear Bw1 kk r_m h_b))
      go_ret
      exact ⟨rfl, Bw2⟩
end
end Go.Proofs.Ytpilfjdhpahphaa

/- A whole value loaded of which the cells are known; rows that came in, kept while what may turn is new. -/
namespace Go.Proofs.Ytpilfjdhpahphaa
open Go.RowKit Go.Deep
set_option linter.unusedSimpArgs false
set_option linter.unusedVariables false

section
variable {P : Program}
theorem run_load_cellsW {w : World} {b off k : Nat} {ty : TypeId} {f : Nat → Value} (hc : ∀ j, j < k → w.cell? ⟨b, off + j, none⟩ = some (f j)) (ht : IsArr P ty k) :
    (loadVar ty ⟨b, off, none⟩).run P w = .ok (.agg (arrOf k f)) w := by
  obtain ⟨hu, hi⟩ := ht
  have hl : (loadCells ⟨b, off, none⟩ ((List.range k).map f).length).run P w = .ok ((List.range k).map f).toArray w :=
    run_loadCells_list (P := P) w ⟨b, off, none⟩ _ (fun j v hv => by
      obtain ⟨hj, rfl⟩ := List.getElem?_eq_some_iff.1 hv
      have hj' : j < k := by simpa using hj
      rw [add_eq, hc j hj']
      simp)
  cases hq : P.info? ty with
  | none => simp [hq] at hi
  | some i =>
    have hs : i.size = k := by simpa [hq] using hi
    cases hd : P.underlying ty with
    | none => simp [hd] at hu
    | some d =>
      have hagg : (isAgg ty).run P w = .ok true w := by
        unfold isAgg
        rw [Sem.run_bind, run_underlying hd w]
        simp [hd] at hu
        cases d <;> simp_all
      simp only [List.length_map, List.length_range] at hl
      simp [loadVar, Sem.run_bind, hagg, sizeOf, typeInfo, hq, hs, hl, arrOf]
end
/-- A whole value is loaded of which the cells are known, behind a guard or not. -/
theorem wpList_load_cellsW {P : Program} {ops : Array Oper} {rest : List Oper} {o : Oper} {a : Act} {w : World} {Q : Exit → Act → World → Prop} (ty : TypeId) (x : Operand) (ho : o.op = .load ty x) (hw : Region.wanted o (yielded ops a.tmps) = true) (k : Nat) (ht : IsArr P ty k) {b off : Nat} {f : Nat → Value}
    (hc : ∀ j, j < k → w.cell? ⟨b, off + j, none⟩ = some (f j)) (hx : a.eval x = .pointer (some ⟨b, off, none⟩)) (h : wpList P ops Q rest (a.put o.dst (.agg (arrOf k f))) w) : wpList P ops Q (o :: rest) a w := by
  refine wpList_value_given hw (.agg (arrOf k f)) ?_ h
  unfold execOp
  simp only [ho, hx, Instr.loadAt, Instr.sureAddr, Sem.run_bind, Sem.run_pure, Result.andThen_ok, run_load_cellsW hc ht]
theorem BssK.old {M : Nat → Prop} {w0 w : World} {v : Value} {L : List (List UInt8)} (h : Bss w0 v L) (hb : Below w0.heap.size w0 w) (hM : ∀ b, M b → w0.heap.size ≤ b) : BssK M w v L := by
  obtain ⟨a, cap, rfl, h1, h2, h3, h4⟩ := h
  cases a with
  | none =>
    have hc := h3 rfl
    obtain rfl : L = [] := List.eq_nil_of_length_eq_zero (by omega)
    subst hc
    exact BssK.nil _ _
  | some x =>
    refine ⟨fun i => (w0.cell? (x.add i)).getD undef, fun w' h' => ⟨some x, cap, rfl, h1, h2, h3, fun y hy i hi => ?_⟩, fun i hi => ?_⟩
    · cases hy
      obtain ⟨g1, u, g2, g3⟩ := h4 _ rfl i hi
      have hb' := hb.trans (h'.below hM hb.size)
      exact ⟨Nat.lt_of_lt_of_le g1 hb'.size, by
        show w'.cell? (x.add i) = some ((w0.cell? (x.add i)).getD undef)
        rw [hb'.cell (p := x.add i) (by rw [add_block]; exact g1), g2]
        rfl⟩
    · obtain ⟨g1, u, g2, g3⟩ := h4 _ rfl i hi
      show BsK M w ((w0.cell? (x.add i)).getD undef) L[i]
      rw [g2]
      exact BsK.old g3 hb hM
end Go.Proofs.Ytpilfjdhpahphaa

/- A slice of numbers of whatever kind that came in; as a row's argument. -/
set_option linter.unusedSimpArgs false
set_option linter.unusedVariables false
namespace Go.Proofs.Ytpilfjdhpahphaa
open Go.ChangeShapes Go.WideShapes Go.ChangeAt Go.RowKit Go.Deep

/-- The slice value v reads as the numbers xs, of kind k. -/
def NumsK (k : IntKind) (w : World) (v : Value) (xs : List Int) : Prop :=
  ∃ (a : Option Addr) (cap : Nat), v = .slice a xs.length cap ∧ xs.length ≤ cap ∧ cap ≤ maxLen ∧ (a = none → cap = 0) ∧ (∀ n ∈ xs, (Lit.int k n).wf = true) ∧
    ∀ x, a = some x → ∀ i (h : i < xs.length), x.block < w.heap.size ∧ w.cell? (x.add i) = some (.int k xs[i])
theorem NumsK.below {k : IntKind} {w w' : World} {v : Value} {xs : List Int} {B : Nat} (h : NumsK k w v xs) (hb : Below B w w') (hB : w.heap.size ≤ B) : NumsK k w' v xs := by
  obtain ⟨a, cap, rfl, h1, h2, h3, hw, h4⟩ := h
  refine ⟨a, cap, rfl, h1, h2, h3, hw, fun x hx i hi => ?_⟩
  obtain ⟨g1, g2⟩ := h4 x hx i hi
  exact ⟨Nat.lt_of_lt_of_le g1 hb.size, (hb.cell (p := x.add i) (by rw [add_block]; omega)).trans g2⟩
theorem NumsK.open_cons {k : IntKind} {w : World} {v : Value} {xs : List Int} (h : NumsK k w v xs) (hne : 0 < xs.length) :
    ∃ b off cap, v = .slice (some ⟨b, off, none⟩) xs.length cap ∧ xs.length ≤ cap ∧ cap ≤ maxLen ∧ b < w.heap.size ∧ ∀ i (h : i < xs.length), w.cell? ⟨b, off + i, none⟩ = some (.int k xs[i]) := by
  obtain ⟨a, cap, rfl, h1, h2, h3, hw, h4⟩ := h
  cases a with
  | none => have := h3 rfl; omega
  | some x =>
    obtain ⟨b, off, spot⟩ := x
    obtain ⟨g1, g2⟩ := h4 _ rfl 0 hne
    have hs : spot = none := by simpa [Addr.add] using World.cell?_spot g2
    subst hs
    exact ⟨b, off, cap, rfl, h1, h2, g1, fun i hi => by rw [← add_eq]; exact (h4 _ rfl i hi).2⟩
theorem NumsK.shape {k : IntKind} {w : World} {v : Value} {xs : List Int} (h : NumsK k w v xs) : ∃ a n cap, v = .slice a n cap ∧ xs.length = n ∧ n ≤ cap ∧ cap ≤ 9223372036854775807 ∧ NumsK k w (.slice a n cap) xs := by
  have h0 := h
  obtain ⟨a, cap, rfl, h1, h2, _⟩ := h
  unfold maxLen at h2
  exact ⟨a, _, cap, rfl, rfl, h1, by omega, h0⟩

theorem intsK_of_trod {H : Type} {enc : TypeId × Value → H} {W : World} {a : Option Addr} {len cap : Nat} {d : DataW H} {ps : List MemPlace}
    (h : DataW.Trod enc Try.prog W 0 (fun _ => true) true 23 (.slice a len cap) d ps) : ∃ xs, NumsK .i64 W (.slice a len cap) xs := by
  obtain ⟨fuel, hf⟩ := h
  rcases open_ints Try.underlying23 Try.underlying3 (by kernel_rfl) hf with ⟨hcs, _⟩ | ⟨x, l, c, zs, hcs, _, hl, hm, hz, _, hcell, hwz⟩
  · simp [Value.cells] at hcs
    obtain ⟨rfl, rfl, rfl⟩ := hcs
    exact ⟨[], none, 0, rfl, by simp, by simp [maxLen], fun _ => rfl, by simp, fun y hy => by cases hy⟩
  · simp [Value.cells] at hcs
    obtain ⟨rfl, rfl, rfl⟩ := hcs
    have hz' : zs.length = cap := by simpa using hz
    have hlen : (zs.take len).length = len := by simp; omega
    refine ⟨zs.take len, some x, cap, by rw [hlen], by omega, hm, (fun h => by cases h), fun n hn => hwz n (List.mem_of_mem_take hn), fun y hy i hi => ?_⟩
    cases hy
    have hc := hcell i (by omega)
    refine ⟨by rw [← add_block x i]; exact World.block_lt_of_cell? W _ hc, ?_⟩
    rw [hc]
    have hi2 : i < zs.length := by omega
    simp [hi2]
end Go.Proofs.Ytpilfjdhpahphaa

/- Ints that came in, as values. -/
namespace Go.Proofs.Ytpilfjdhpahphaa
open Go.RowKit Go.Deep
set_option linter.unusedSimpArgs false
set_option linter.unusedVariables false

theorem NumsK.vs {w : World} {v : Value} {l : List Int} (h : NumsK .i64 w v l) : Vs w v l.length (fun i => .int .i64 (l.getD i 0)) ∧ ∀ i, i < l.length → (Lit.int .i64 (l.getD i 0)).wf = true := by
  obtain ⟨a, cap, rfl, h1, h2, h3, h4, h5⟩ := h
  refine ⟨⟨a, cap, rfl, h1, h2, h3, fun x hx i hi => ⟨(h5 x hx i hi).1, ?_⟩⟩, fun i hi => ?_⟩
  · rw [(h5 x hx i hi).2]
    show _ = some (Value.int .i64 (l.getD i 0))
    rw [List.getD_eq_getElem?_getD, List.getElem?_eq_getElem hi]; rfl
  · rw [List.getD_eq_getElem?_getD, List.getElem?_eq_getElem hi]
    exact h4 _ (List.getElem_mem _)
theorem Vs.bel {w w' : World} {v : Value} {n : Nat} {f : Nat → Value} (h : Vs w v n f) (k : Below w.heap.size w w') : Vs w' v n f := by
  obtain ⟨a, cap, rfl, h1, h2, h3, h4⟩ := h
  refine ⟨a, cap, rfl, h1, h2, h3, fun x hx i hi => ?_⟩
  obtain ⟨g1, g2⟩ := h4 x hx i hi
  exact ⟨Nat.lt_of_lt_of_le g1 k.size, (k.cell (p := x.add i) (by rw [add_block]; exact g1)).trans g2⟩
theorem vs_nil (w : World) {f : Nat → Value} : Vs w (.slice none 0 0) 0 f := ⟨none, 0, rfl, Nat.le_refl _, by simp [maxLen], fun _ => rfl, fun x h => by cases h⟩
end Go.Proofs.Ytpilfjdhpahphaa

/- Chapter 15's statements over a device that is but promised: both made, both crashed; awake. -/
namespace Go.Proofs.Ytpilfjdhpahphaa
open Go.RowKit Go.Deep
set_option linter.unusedSimpArgs false
set_option linter.unusedVariables false

/-- The state behind the first i steps. -/
def stTo (S : DS) (L : List Sp) (i : Nat) : DS := (L.take i).foldl stS S
theorem stTo_succ (S : DS) (L : List Sp) (i : Nat) (h : i < L.length) : stTo S L (i + 1) = stS (stTo S L i) L[i] := by
  unfold stTo
  rw [List.take_succ_eq_append_getElem h, List.foldl_append]
  rfl
theorem stTo_ok {S : DS} {B : Nat} (h : okD S B) (L : List Sp) (hL : ∀ x ∈ L, okSp x) : ∀ i, i ≤ L.length → okD (stTo S L i) (B + i)
  | 0, _ => h
  | i + 1, hi => by
    rw [stTo_succ S L i (by omega)]
    exact stS_ok (stTo_ok h L hL i (by omega)) _ (hL _ (List.getElem_mem _))
theorem newS_ok (n : Nat) (h1 : 1 ≤ n) (h2 : n ≤ 65536) : okD (newS n) 0 := ⟨Nat.le_refl _, h1, h2, (show (Lit.int .i64 0).wf = true by decide), fun k _ => List.length_replicate, fun k _ l hl => (by cases hl), fun k => Nat.le_refl _⟩
theorem wrT_n (S : DS) (k : Int) (b : List UInt8) : (wrT S k b).n = S.n := by
  unfold wrT
  split
  · split
    · exact (opD_same S).1
    · exact (opD_same S).1
  · rfl
theorem stS_n (S : DS) (x : Sp) : (stS S x).n = S.n := by
  unfold stS
  split
  · exact wrT_n _ _ _
  · split
    · unfold flT
      split
      · exact (opD_same S).1
      · exact (opD_same S).1
    · split <;> rfl
theorem stTo_n (S : DS) (L : List Sp) : ∀ i, i ≤ L.length → (stTo S L i).n = S.n
  | 0, _ => rfl
  | i + 1, hi => by rw [stTo_succ S L i (by omega), stS_n]; exact stTo_n S L i (by omega)
theorem pickS_lt (S : DS) (L : Nat) (pk : Nat → Int) (k : Nat) : pickS S L pk k ≤ 2 * (S.pend k).length := by
  unfold pickS
  split
  · exact Nat.zero_le _
  · rename_i h
    have h1 := Int.emod_lt_of_pos (pk (cntS S.pend k % L)) (b := 2 * ((S.pend k).length : Int) + 1) (by omega)
    have h2 := Int.emod_nonneg (pk (cntS S.pend k % L)) (b := 2 * ((S.pend k).length : Int) + 1) (by omega)
    omega
theorem atS_len64 {S : DS} {B : Nat} (h : okD S B) (k j : Nat) (hk : k < S.n) (hj : j ≤ (S.pend k).length) : (atS S k j).length = 64 := by
  unfold atS
  split
  · exact h.good k hk
  · have hl : j - 1 < (S.pend k).length := by omega
    rw [List.getD_eq_getElem?_getD, List.getElem?_eq_getElem hl]
    exact h.pend k hk _ (List.getElem_mem _)
theorem crG_len {S : DS} {B : Nat} (h : okD S B) (L : Nat) (pk : Nat → Int) (k : Nat) (hk : k < S.n) : (crG S L pk k).length = 64 := by
  have hp := pickS_lt S L pk k
  unfold crG
  split
  · have hl : pickS S L pk k / 2 < (S.pend k).length := by omega
    have e : ((S.pend k).getD (pickS S L pk k / 2) []).length = 64 := by
      rw [List.getD_eq_getElem?_getD, List.getElem?_eq_getElem hl]
      exact h.pend k hk _ (List.getElem_mem _)
    rw [List.length_append, List.length_take, List.length_drop, e, atS_len64 h k _ hk (by omega)]
    rfl
  · exact atS_len64 h k _ hk (by omega)
theorem crI_ok {S : DS} {B : Nat} (h : okD S B) (L : Nat) (pk : Nat → Int) : okD (crI S L pk S.n) 0 := ⟨Nat.le_refl _, h.n1, h.n, (show (Lit.int .i64 0).wf = true by decide), fun k hk => by
    show (if k < S.n then crG S L pk k else List.replicate 64 0).length = 64
    rw [if_pos (show k < S.n from hk)]
    exact crG_len h L pk k hk, fun k _ l hl => (by cases hl), fun k => Nat.le_refl _⟩
theorem crI_now (S : DS) (L : Nat) (pk : Nat → Int) (k : Nat) (hk : k < S.n) : nowS (crI S L pk S.n) k = crG S L pk k := by
  show (if k < S.n then crG S L pk k else List.replicate 64 0) = _
  rw [if_pos hk]
section
variable {BkAt : (Nat → Prop) → (Nat → Prop) → World → Nat → DS → Prop} (A : BkApi BkAt)
include A
/-- Both made. -/
theorem two_new {T D : Nat → Prop} {w w1 w2 : World} {y m g wb n : Nat} (hb : BkAt T D w1 y (newS n)) (hD : ∀ b, D b → w.heap.size ≤ b) (k1 : Below w.heap.size w w1) (l1 : w1.heap.size ≤ m) (l2 : w1.heap.size ≤ g) (l3 : w1.heap.size ≤ wb) (hd : DevAt (fun b => T b ∨ b = m ∨ b = g ∨ b = wb) m g wb w2 (newS n)) (k2 : Below w1.heap.size w1 w2) :
    Two BkAt (fun b => T b ∨ b = m ∨ b = g ∨ b = wb) T D y m g wb w2 (newS n) ∧ ∀ b, (T b ∨ b = m ∨ b = g ∨ b = wb) → w.heap.size ≤ b := by
  have hA := A
  have hl := hd.lt
  have hs := k1.size
  have nd : ∀ x, w1.heap.size ≤ x → ¬ D x := fun x hx h => by have := hA.lt _ _ _ _ _ hb x h; omega
  refine ⟨⟨hA.stay _ _ (fun _ => False) _ _ _ _ hb (Sam.of_below k2) (fun _ h => h.elim), hd, fun b h => .inl h, ?_, nd _ l1, nd _ l2, nd _ l3⟩, ?_⟩
  · rintro b (h | rfl | rfl | rfl)
    · exact Nat.lt_of_lt_of_le (hA.lt _ _ _ _ _ hb b (hA.sub _ _ _ _ _ hb b h)) k2.size
    · exact hl.1
    · exact hl.2.1
    · exact hl.2.2
  · rintro b (h | rfl | rfl | rfl)
    · exact hD b (hA.sub _ _ _ _ _ hb b h)
    all_goals omega
/-- The document's device, where another one was made beside the device. -/
theorem made_dev {M T D T' D' : Nat → Prop} {w w1 : World} {y y' m g wb : Nat} {S S' : DS} (hT : Two BkAt M T D y m g wb w S) (hb : BkAt T' D' w1 y' S') (k : Below w.heap.size w w1) (hT' : ∀ b, T' b → w.heap.size ≤ b) :
    DevAt (fun b => M b ∨ T' b) m g wb w1 S ∧ ∀ b, (M b ∨ T' b) → b < w1.heap.size := by
  have hA := A
  refine ⟨hT.dv.kept (F := fun _ => False) (Sam.of_below k) (fun _ h => h.elim) (fun h => h) (fun h => h) (fun h => h) (fun b h => .inl h) (fun b h => h.imp id (hT' b)), ?_⟩
  rintro b (h | h)
  · exact Nat.lt_of_lt_of_le (hT.ml b h) k.size
  · exact hA.lt _ _ _ _ _ hb b (hA.sub _ _ _ _ _ hb b h)
theorem made_two {M T' D' : Nat → Prop} {w1 w2 : World} {y' m2 g2 wb2 : Nat} {S' : DS} (hb : BkAt T' D' w1 y' S') (hM : ∀ b, (M b ∨ T' b) → b < w1.heap.size) (l1 : w1.heap.size ≤ m2) (l2 : w1.heap.size ≤ g2) (l3 : w1.heap.size ≤ wb2) (hd : DevAt (fun b => (M b ∨ T' b) ∨ b = m2 ∨ b = g2 ∨ b = wb2) m2 g2 wb2 w2 S') (k : Below w1.heap.size w1 w2) :
    Two BkAt (fun b => (M b ∨ T' b) ∨ b = m2 ∨ b = g2 ∨ b = wb2) T' D' y' m2 g2 wb2 w2 S' := by
  have hA := A
  have hl := hd.lt
  have nd : ∀ x, w1.heap.size ≤ x → ¬ D' x := fun x hx h => by have := hA.lt _ _ _ _ _ hb x h; omega
  refine ⟨hA.stay _ _ (fun _ => False) _ _ _ _ hb (Sam.of_below k) (fun _ h => h.elim), hd, fun b h => .inl (.inr h), ?_, nd _ l1, nd _ l2, nd _ l3⟩
  rintro b (h | rfl | rfl | rfl)
  · exact Nat.lt_of_lt_of_le (hM b h) k.size
  · exact hl.1
  · exact hl.2.1
  · exact hl.2.2
omit A in
theorem wints1 {ops : Array Oper} {rest : List Oper} {o : Oper} {a : Act} {w : World} {Q : Exit → Act → World → Prop} (hgd : o.guard = none) (n : Int) (x : Operand) (hx : a.eval x = .int .i64 n) (ho : o.op = .buildSlice 23 1 #[(0, x)])
    (h : ∀ v w', Vs w' v 1 (fun _ => .int .i64 n) → Below w.heap.size w w' → wpList Try.prog ops Q rest (a.put o.dst v) w') : wpList Try.prog ops Q (o :: rest) a w :=
  wpList_plain hgd fun _ hK => by
    have hr : (execOp a.eval (mkOp (.buildSlice 23 1 #[(0, x)]) o.type)).run Try.prog w = .ok (.value (.slice (some ⟨w.heap.size, 0, none⟩) 1 1)) (w.alloc (.cells #[.int .i64 n] 3)) := by
      simp only [execOp, mkOp, List.map_toArray, List.map_cons, List.map_nil, hx]
      go_simp
    unfold Oper.wp
    rw [exec_mkOp, ho, hr]
    exact hK _ _ (h _ _ ((OwnV.laid w 3 #[.int .i64 n] 1 rfl (by unfold maxLen; omega)).vs.congr rfl fun i hi => by
      have hi' : i < 1 := hi
      obtain rfl : i = 0 := by omega
      rfl) ((Below.refl _ _).alloc (Nat.le_refl _) _))
omit A in
theorem aw_blk : (blkL 1 64)[0]? = some 8 ∧ (blkL 1 64).length = 64 := by decide +kernel
omit A in
theorem aw_st : wrE (newS 2) 0 (blkL 1 64) = 0 ∧ nowS (crI (wrT (newS 2) 0 (blkL 1 64)) 1 (fun _ => 2) (wrT (newS 2) 0 (blkL 1 64)).n) 0 = blkL 1 64 ∧ (wrT (newS 2) 0 (blkL 1 64)).n = 2 := by
  have ha : argS (newS 2) 0 (blkL 1 64) = true := by simp [argS, newS, blkL_len]
  have ho : opOk (newS 2) = true := by decide
  have e : wrT (newS 2) 0 (blkL 1 64) = wrS (newS 2) 0 (blkL 1 64) := by
    unfold wrT
    rw [if_pos ha, if_pos ho]
    rfl
  refine ⟨by unfold wrE; rw [if_pos ha, if_pos ho], ?_, by rw [e]; rfl⟩
  rw [crI_now _ _ _ _ (by rw [e]; decide), e]
  have hp : (wrS (newS 2) 0 (blkL 1 64)).pend 0 = [blkL 1 64] := rfl
  have hk : pickS (wrS (newS 2) 0 (blkL 1 64)) 1 (fun _ => 2) 0 = 2 := by
    unfold pickS
    rw [hp]
    decide
  unfold crG
  rw [hk, if_neg (by decide)]
  unfold atS
  rw [if_neg (by decide), hp]
  rfl
set_option maxHeartbeats 4000000 in
set_option maxRecDepth 20000 in
theorem awake15_api (w : World) : Calls Try.prog 9 #[] w fun e w' => e = .returned (.bool true) ∧ Below w.heap.size w w' := by
  have HA := Lib.hid A
  obtain ⟨BL, hBL⟩ : ∃ l, l = blkL 1 64 := ⟨_, rfl⟩
  have h8 := aw_blk
  have hst := aw_st
  rw [← hBL] at h8 hst
  have H8 := Lib.hid h8
  have HST := Lib.hid hst
  have HBL := Lib.hid hBL
  have HOK := Lib.hid (newS_ok 2 (by decide) (by decide))
  have Bw0 := Below.refl w.heap.size w
  have HGS : Hid (∀ wq : World, Below w.heap.size w wq → w.heap.size ≤ wq.heap.size) := Lib.hid fun wq h => h.size
  clear h8 hst hBL A
  go_enter Try.func9, Try.ntmps9
  go_wp2_with (first
    | (have hgo := Bw0; clear hgo
       go_at_call 10
       refine (HA.out.newYes _ 2 (by decide) (by decide)).mono ?_
       rintro e w1 ⟨y, T, D, rfl, hb, hD, kk⟩
       have HB := Lib.hid hb
       have Bw1 := kk
       clear Bw0 kk hb)
    | (have hgo := Bw1; clear hgo
       go_at_call 10
       refine (HA.out.newNo _ 0 (by decide)).mono ?_
       rintro e w2 ⟨rfl, kk⟩
       have HB2 := Lib.hid (HA.out.stay _ _ (fun _ => False) _ _ _ _ HB.out (Sam.of_below kk) (fun _ h => h.elim))
       have L1 := Lib.hid kk.size
       have Bw2 := zbt HGS Bw1 kk
       clear Bw1 kk HB)
    | (have hgo := Bw2; clear hgo
       go_at_call 25
       refine (block2_any _ 64 1 (by decide)).mono ?_
       rintro e w3 ⟨v_b, rfl, o_b, kk⟩
       rw [← HBL.out] at o_b
       have HB3 := Lib.hid (HA.out.stay _ _ (fun _ => False) _ _ _ _ HB2.out (Sam.of_below kk) (fun _ h => h.elim))
       have HBS : Hid (BsK T w3 v_b BL) := Lib.hid (BsK.own o_b fun b hb => HA.out.lt _ _ _ _ _ HB2.out b (HA.out.sub _ _ _ _ _ HB2.out b hb))
       have HTL : Hid (∀ b, T b → w.heap.size ≤ b) := Lib.hid fun b hb => hD b (HA.out.sub _ _ _ _ _ HB2.out b hb)
       have Bw3 := zbt HGS Bw2 kk
       clear Bw2 kk o_b HB2)
    | (have hgo := Bw3; clear hgo
       go_at_call 19
       refine (HA.out.write T D _ y (newS 2) 0 0 v_b BL HB3.out HOK.out (by decide) HBS.out).mono ?_
       rintro e w4 ⟨rfl, T4, D4, hb4, s4, t4, d4⟩
       rw [HST.out.1]
       have HB4 := Lib.hid hb4
       have Bw4 := Bw3.trans (s4.below HTL.out Bw3.size)
       clear Bw3 hb4 s4 t4 d4 HB3 HBS)
    | (have hgo := Bw4; clear hgo
       refine wints1 rfl 2 (.const (.int .i64 2)) rfl rfl ?_
       intro v_p w5 f_p kk
       have HB5 := Lib.hid (HA.out.stay _ _ (fun _ => False) _ _ _ _ HB4.out (Sam.of_below kk) (fun _ h => h.elim))
       have Bw5 := zbt HGS Bw4 kk
       clear Bw4 kk HB4)
    | (have hgo := Bw5; clear hgo
       go_at_call 13
       refine (HA.out.crash T4 D4 _ y _ 1 1 (fun _ => 2) v_p HB5.out (wrT_ok HOK.out 0 BL) (by decide) f_p (by decide) (fun _ _ => (by decide))).mono ?_
       rintro e w6 ⟨y6, T6, D6, rfl, hb6, kk, _, _⟩
       have HB6 := Lib.hid hb6
       have Bw6 := zbt HGS Bw5 kk
       clear Bw5 kk hb6 HB5 f_p)
    | (have hgo := Bw6; clear hgo
       go_at_call 16
       refine (read_to HA.out T6 D6 _ y6 _ 0 0 HB6.out (crI_ok (wrT_ok HOK.out 0 BL) 1 (fun _ => 2)) (by decide) (show 0 < (wrT (newS 2) 0 BL).n by rw [HST.out.2.2]; decide)).mono ?_
       rintro e w7 ⟨v_r, rfl, f_r, kk⟩
       rw [HST.out.2.1] at f_r
       obtain ⟨bb, off, cap, rfl, q1, q2, q3, q4⟩ := f_r.open_cons (by rw [H8.out.2]; decide)
       have hc8 := q4 0 (by rw [H8.out.2]; decide)
       have e8 : BL[0]'(by rw [H8.out.2]; decide) = 8 := by have h := H8.out.1; rw [List.getElem?_eq_getElem (by rw [H8.out.2]; decide)] at h; exact Option.some.inj h
       rw [e8] at hc8
       rw [H8.out.2]
       replace hc8 : w7.cell? ⟨bb, off, none⟩ = some (.int .u8 8) := hc8
       have Bw7 := zbt HGS Bw6 kk
       clear Bw6 kk f_r q1 q2 q4 e8 HB6))
  go_ret
  exact ⟨rfl, Bw7⟩
end
end Go.Proofs.Ytpilfjdhpahphaa

/- Chapter 15's statements over a device that is but promised: a row of steps. -/
namespace Go.Proofs.Ytpilfjdhpahphaa
open Go.RowKit Go.Deep
set_option linter.unusedSimpArgs false
set_option linter.unusedVariables false

theorem Sps.open_cons {w : World} {v : Value} {L : List Sp} (h : Sps w v L) (hne : 0 < L.length) :
    ∃ b off cap, v = .slice (some ⟨b, off, none⟩) L.length cap ∧ L.length ≤ cap ∧ cap ≤ maxLen ∧ b < w.heap.size ∧ ∀ i (h : i < L.length), SpAt w ⟨b, off + i * 3, none⟩ L[i] := by
  obtain ⟨a, cap, rfl, h1, h2, h3, h4⟩ := h
  cases a with
  | none => have := h3 rfl; omega
  | some x =>
    obtain ⟨b, off, spot⟩ := x
    have g := h4 _ rfl 0 hne
    have hs : spot = none := by simpa [Addr.add] using World.cell?_spot g.2.1.1
    subst hs
    exact ⟨b, off, cap, rfl, h1, h2, by simpa [Addr.add] using g.1, fun i hi => by rw [← add_eq]; exact h4 _ rfl i hi⟩
theorem Sps.ok {w : World} {v : Value} {L : List Sp} (h : Sps w v L) : ∀ x ∈ L, okSp x := by
  intro x hx
  obtain ⟨i, hi, rfl⟩ := List.getElem_of_mem hx
  obtain ⟨b, off, cap, he, _, _, _, h4⟩ := h.open_cons (by omega)
  have g := h4 i hi
  exact ⟨g.2.1.2, g.2.2.1.2, g.2.2.2.2⟩
theorem SpAt.cells {w : World} {b off : Nat} {x : Sp} (h : SpAt w ⟨b, off, none⟩ x) : ∀ wx, Below w.heap.size w wx → ∀ j, j < 3 → wx.cell? ⟨b, off + j, none⟩ = some (spF x j) := by
  obtain ⟨h0, ⟨h1, _⟩, ⟨h2, _⟩, ⟨h3, _⟩⟩ := h
  intro wx hx j hj
  rw [hx.cell (p := ⟨b, off + j, none⟩) h0]
  rcases (show j = 0 ∨ j = 1 ∨ j = 2 by omega) with rfl | rfl | rfl
  · exact h1
  · rw [Addr.add_lit] at h2; exact h2
  · rw [Addr.add_lit] at h3; exact h3
theorem arrSp : IsArr Try.prog 34 3 := ⟨by kernel_rfl, by kernel_rfl⟩
/-- The state behind the first i steps, those of kind 3 left out. -/
def stNTo (S : DS) (L : List Sp) (i : Nat) : DS := (L.take i).foldl (fun S x => if x.k = 3 then S else stS S x) S
theorem stNTo_succ (S : DS) (L : List Sp) (i : Nat) (h : i < L.length) : stNTo S L (i + 1) = if L[i].k = 3 then stNTo S L i else stS (stNTo S L i) L[i] := by
  unfold stNTo
  rw [List.take_succ_eq_append_getElem h, List.foldl_append]
  rfl
theorem stNTo_ok {S : DS} {B : Nat} (h : okD S B) (L : List Sp) (hL : ∀ x ∈ L, okSp x) : ∀ i, i ≤ L.length → okD (stNTo S L i) (B + i)
  | 0, _ => h
  | i + 1, hi => by
    rw [stNTo_succ S L i (by omega)]
    split
    · exact (stNTo_ok h L hL i (by omega)).more (Nat.le_succ _)
    · exact stS_ok (stNTo_ok h L hL i (by omega)) _ (hL _ (List.getElem_mem _))
theorem stNTo_n (S : DS) (L : List Sp) : ∀ i, i ≤ L.length → (stNTo S L i).n = S.n
  | 0, _ => rfl
  | i + 1, hi => by
    rw [stNTo_succ S L i (by omega)]
    split
    · exact stNTo_n S L i (by omega)
    · rw [stS_n]; exact stNTo_n S L i (by omega)
theorem exec_strD {w : World} (ρ : Operand → Value) (x y : Operand) (t : TypeId) {l m : List UInt8} (hx : ρ x = .string ⟨l.toArray⟩) (hy : ρ y = .string ⟨m.toArray⟩) :
    (execOp ρ (mkOp (.binOp .eql 9 x y 9) t)).run Try.prog w = .ok (.value (.bool (decide (l = m)))) w := by
  by_cases h : l = m
  · rw [decide_eq_true h]
    subst h
    simp only [execOp, mkOp, hx, hy]
    all_goals go_simp
  · rw [decide_eq_false h]
    simp only [execOp, mkOp, hx, hy]
    go_simp
    all_goals simp [h]
theorem exec_strE {w : World} (ρ : Operand → Value) (x y : Operand) (t : TypeId) {l m : List UInt8} {b : Bool} (hb : decide (l = m) = b) (hx : ρ x = .string ⟨l.toArray⟩) (hy : ρ y = .string ⟨m.toArray⟩) :
    (execOp ρ (mkOp (.binOp .eql 9 x y 9) t)).run Try.prog w = .ok (.value (.bool b)) w := by
  subst hb
  exact exec_strD ρ x y t hx hy
theorem cut32 {w : World} {v : Value} {l : List UInt8} (h : Bs w v l) (hl : l.length = 64) : ∃ v1 v2, (∀ wx, Below w.heap.size w wx → Bs wx v1 (l.take 32)) ∧ (∀ wx, Below w.heap.size w wx → Bs wx v2 (l.drop 32)) ∧
    (∀ (ρ : Operand → Value) (x hi : Operand) (t : TypeId) (w0 : World), ρ x = v → ρ hi = .int .i64 32 → (execOp ρ (mkOp (.slice 39 x none (some hi) none) t)).run Try.prog w0 = .ok (.value v1) w0) ∧
    ∀ (ρ : Operand → Value) (x lo : Operand) (t : TypeId) (w0 : World), ρ x = v → ρ lo = .int .i64 32 → (execOp ρ (mkOp (.slice 39 x (some lo) none none) t)).run Try.prog w0 = .ok (.value v2) w0 := by
  obtain ⟨ad, n, cap, rfl, hn, hc1, hc2, hB⟩ := h.shape
  obtain rfl : n = 64 := by omega
  have hc3 : 64 ≤ cap := hc1
  have ht := fun w0 => run_toB (P := Try.prog) w0 39 5 ad 64 cap 32 Try.underlying39 (by kernel_rfl) (by omega)
  have hd := fun w0 => run_sliceFrom (P := Try.prog) w0 39 5 ad 64 cap 32 .i64 Try.underlying39 (by kernel_rfl) (by omega)
  refine ⟨.slice ad 32 cap, _, fun wx k => (zfb hB k).take (k := 32) (by omega), fun wx k => (zfb hB k).drop (k := 32) (by omega), fun ρ x hi t w0 hx hh => ?_, fun ρ x lo t w0 hx hh => ?_⟩
  · have := ht w0
    simp only [Int.cast_ofNat_Int] at this
    simp [execOp, mkOp, hx, hh, this, Result.andThen]
  · have := hd w0
    simp only [Int.cast_ofNat_Int] at this
    simp [execOp, mkOp, hx, hh, this, Result.andThen]
section
variable {BkAt : (Nat → Prop) → (Nat → Prop) → World → Nat → DS → Prop} (A : BkApi BkAt)
include A
/-- One step more of two devices that were made behind w. -/
theorem TwoNew.go {M T D : Nat → Prop} {y m g wb B : Nat} {wr w' : World} {S S' : DS} (hT : Two BkAt M T D y m g wb wr S) (hM : ∀ b, M b → B ≤ b) (hB : B ≤ wr.heap.size) (hn : TwoNew BkAt M T D y m g wb wr S' w') :
    ∃ M' T' D', Two BkAt M' T' D' y m g wb w' S' ∧ (∀ b, M' b → B ≤ b) ∧ Below B wr w' := by
  have hA := A
  obtain ⟨M', T', D', h1, h2, h3, h4, h5, h6⟩ := hn
  have ho := hT.dv.own
  refine ⟨M', T', D', h1, fun b h => (h4 b h).elim (hM b) fun h => Nat.le_trans hB h, h2.below ?_ hB⟩
  rintro b (h | rfl | rfl | rfl)
  · exact hM b (hT.tm b h)
  · exact hM _ ho.1
  · exact hM _ ho.2.1
  · exact hM _ ho.2.2
theorem TwoNew.gone {M T D : Nat → Prop} {y m g wb : Nat} {w0 wr w' : World} {S S' : DS} (hT : Two BkAt M T D y m g wb wr S) (hM : ∀ b, M b → w0.heap.size ≤ b) (k : Below w0.heap.size w0 wr) (hn : TwoNew BkAt M T D y m g wb wr S' w') :
    ∃ M' T' D', Two BkAt M' T' D' y m g wb w' S' ∧ (∀ b, M' b → w0.heap.size ≤ b) ∧ Below w0.heap.size w0 w' := by
  obtain ⟨M', T', D', h1, h2, h3⟩ := TwoNew.go A hT hM k.size hn
  exact ⟨M', T', D', h1, h2, k.trans h3⟩
/-- A pair stays while another one goes on. -/
theorem Two.keep {M N T D F : Nat → Prop} {y m g wb : Nat} {w w' : World} {S : DS} (h : Two BkAt M T D y m g wb w S) (k : Sam F w w') (hF : ∀ b, F b → M b) (hm : ¬ F m) (hg : ¬ F g) (hw : ¬ F wb) (hD : ∀ b, F b → ¬ D b) (h1 : ∀ b, M b → N b) (h2 : ∀ b, N b → M b ∨ w.heap.size ≤ b) (h3 : ∀ b, N b → b < w'.heap.size) : Two BkAt N T D y m g wb w' S := by
  have hA := A
  exact ⟨hA.stay _ _ _ _ _ _ _ h.bk k hD, h.dv.kept k hF hm hg hw h1 h2, fun b hb => h1 b (h.tm b hb), h3, h.dm, h.dg, h.dw⟩
/-- Two pairs, the one older than B, the other one younger: a step of the younger. -/
structure Four (BkAt : (Nat → Prop) → (Nat → Prop) → World → Nat → DS → Prop) (M T D T2 D2 : Nat → Prop) (y m g wb y2 m2 g2 wb2 B : Nat) (w : World) (S S2 : DS) : Prop where
  one : Two BkAt M T D y m g wb w S
  two : Two BkAt M T2 D2 y2 m2 g2 wb2 w S2
  old : ∀ b, D b → b < B
  om : m < B ∧ g < B ∧ wb < B
  new : ∀ b, T2 b → B ≤ b
  nm : B ≤ m2 ∧ B ≤ g2 ∧ B ≤ wb2
  bw : B ≤ w.heap.size
theorem Four.go {M T D T2 D2 : Nat → Prop} {y m g wb y2 m2 g2 wb2 B : Nat} {w0 wr w' : World} {S S2 S' : DS} (h : Four BkAt M T D T2 D2 y m g wb y2 m2 g2 wb2 B wr S S2) (hM : ∀ b, M b → w0.heap.size ≤ b) (k0 : Below w0.heap.size w0 wr) (hn : TwoNew BkAt M T2 D2 y2 m2 g2 wb2 wr S' w') :
    ∃ M' T' D', Four BkAt M' T D T' D' y m g wb y2 m2 g2 wb2 B w' S S' ∧ (∀ b, M' b → w0.heap.size ≤ b) ∧ Below w0.heap.size w0 w' := by
  have hA := A
  obtain ⟨M', T', D', h1, h2, h3, h4, h5, h6⟩ := hn
  have ho := h.two.dv.own
  have nB : ∀ b, turnT T2 m2 g2 wb2 b → B ≤ b := by
    rintro b (hb | rfl | rfl | rfl)
    · exact h.new b hb
    · exact h.nm.1
    · exact h.nm.2.1
    · exact h.nm.2.2
  have tM : ∀ b, turnT T2 m2 g2 wb2 b → M b := by
    rintro b (hb | rfl | rfl | rfl)
    · exact h.two.tm b hb
    · exact ho.1
    · exact ho.2.1
    · exact ho.2.2
  refine ⟨M', T', D', ⟨Two.keep A h.one h2 tM (fun hb => by have := nB _ hb; have := h.om; omega) (fun hb => by have := nB _ hb; have := h.om; omega) (fun hb => by have := nB _ hb; have := h.om; omega) (fun b hb hd => by have := nB b hb; have := h.old b hd; omega) h3 h4 h1.ml, h1, h.old, h.om, fun b hb => (h5 b hb).elim (h.new b) fun hb => Nat.le_trans h.bw hb, h.nm, Nat.le_trans h.bw h2.size⟩, fun b hb => (h4 b hb).elim (hM b) fun hb => Nat.le_trans k0.size hb, k0.trans (h2.below (fun b hb => hM b (tM b hb)) k0.size)⟩
/-- Where both were copied. -/
theorem four_new {M T D T5 D5 : Nat → Prop} {y m g wb y5 m2 g2 wb2 B0 : Nat} {w w5 w7 : World} {S S2 : DS} (hT : Two BkAt M T D y m g wb w S) (hM : ∀ b, M b → B0 ≤ b) (hB : B0 ≤ w.heap.size) (hb : BkAt T5 D5 w5 y5 S2) (k5 : Below w.heap.size w w5) (t5 : ∀ b, T5 b → w.heap.size ≤ b) (l1 : w5.heap.size ≤ m2) (l2 : w5.heap.size ≤ g2) (l3 : w5.heap.size ≤ wb2)
    (hd : DevAt (fun b => (M b ∨ T5 b) ∨ b = m2 ∨ b = g2 ∨ b = wb2) m2 g2 wb2 w7 S2) (k7 : Below w5.heap.size w5 w7) : Four BkAt (fun b => (M b ∨ T5 b) ∨ b = m2 ∨ b = g2 ∨ b = wb2) T D T5 D5 y m g wb y5 m2 g2 wb2 w.heap.size w7 S S2 ∧ ∀ b, ((M b ∨ T5 b) ∨ b = m2 ∨ b = g2 ∨ b = wb2) → B0 ≤ b := by
  have hA := A
  have hs := k5.size
  have h2 := made_two A (M := M) hb (fun b h => h.elim (fun h => Nat.lt_of_lt_of_le (hT.ml b h) hs) fun h => hA.lt _ _ _ _ _ hb b (hA.sub _ _ _ _ _ hb b h)) l1 l2 l3 hd k7
  have nn : ∀ b, ((M b ∨ T5 b) ∨ b = m2 ∨ b = g2 ∨ b = wb2) → M b ∨ w.heap.size ≤ b := by
    rintro b ((h | h) | rfl | rfl | rfl)
    · exact .inl h
    · exact .inr (t5 b h)
    all_goals (right; omega)
  have k : Below w.heap.size w w7 := k5.trans (k7.mono hs)
  refine ⟨⟨Two.keep A hT (F := fun _ => False) (Sam.of_below k) (fun _ h => h.elim) (fun h => h) (fun h => h) (fun h => h) (fun _ h => h.elim) (fun b h => .inl (.inl h)) nn h2.ml, h2, hA.lt _ _ _ _ _ hT.bk, hT.dv.lt, t5, ⟨by omega, by omega, by omega⟩, k.size⟩, fun b h => (nn b h).elim (hM b) fun h => Nat.le_trans hB h⟩
omit A in
theorem four_base {M T D T2 D2 : Nat → Prop} {y m g wb y2 m2 g2 wb2 B : Nat} {w : World} {S S2 : DS} {Q : Prop} (h : Hid (Four BkAt M T D T2 D2 y m g wb y2 m2 g2 wb2 B w S S2)) (h2 : Hid Q) : ∃ B', Hid (Four BkAt M T D T2 D2 y m g wb y2 m2 g2 wb2 B' w S S2) ∧ Hid Q := ⟨B, h, h2⟩
omit A in
theorem wints1g {ops : Array Oper} {rest : List Oper} {o : Oper} {a : Act} {w : World} {Q : Exit → Act → World → Prop} (hw : Region.wanted o (yielded ops a.tmps) = true) (n : Int) (x : Operand) (hx : a.eval x = .int .i64 n) (ho : o.op = .buildSlice 23 1 #[(0, x)])
    (h : ∀ v w', Vs w' v 1 (fun _ => .int .i64 n) → Below w.heap.size w w' → wpList Try.prog ops Q rest (a.put o.dst v) w') : wpList Try.prog ops Q (o :: rest) a w :=
  wpList_given hw fun _ hK => by
    have hr : (execOp a.eval (mkOp (.buildSlice 23 1 #[(0, x)]) o.type)).run Try.prog w = .ok (.value (.slice (some ⟨w.heap.size, 0, none⟩) 1 1)) (w.alloc (.cells #[.int .i64 n] 3)) := by
      simp only [execOp, mkOp, List.map_toArray, List.map_cons, List.map_nil, hx]
      go_simp
    unfold Oper.wp
    rw [exec_mkOp, ho, hr]
    exact hK _ _ (h _ _ ((OwnV.laid w 3 #[.int .i64 n] 1 rfl (by unfold maxLen; omega)).vs.congr rfl fun i hi => by
      have hi' : i < 1 := hi
      obtain rfl : i = 0 := by omega
      rfl) ((Below.refl _ _).alloc (Nat.le_refl _) _))
end
end Go.Proofs.Ytpilfjdhpahphaa

/- BlockPlays over a promised device. -/
namespace Go.Proofs.Ytpilfjdhpahphaa
open Go.RowKit Go.Deep
set_option linter.unusedSimpArgs false
set_option linter.unusedVariables false

section
variable {BkAt : (Nat → Prop) → (Nat → Prop) → World → Nat → DS → Prop} (A : BkApi BkAt)
include A
set_option maxHeartbeats 4000000 in
set_option maxRecDepth 20000 in
theorem plays_o1 (w : World) (b0 : Int) (al : Option Addr) (nl cl : Nat) (ap : Option Addr) (np cp : Nat) (h1 : 20 < b0) : Calls Try.prog 3 #[.int .i64 b0, .slice al nl cl, .slice ap np cp] w fun e w' => e = .returned (.bool true) ∧ Below w.heap.size w w' := by
  have HA := Lib.hid A
  have Bw0 := Below.refl w.heap.size w
  clear A
  go_enter Try.func3, Try.ntmps3
  go_wp2_with (first
    | (have hgo := Bw0; clear hgo
       go_at_call 9
       refine (awake15_api HA.out _).mono ?_
       rintro e w1 ⟨rfl, kk⟩
       have Bw1 := Bw0.trans (kk.mono Bw0.size)
       clear Bw0 kk))
  go_ret
  exact ⟨rfl, Bw1⟩
set_option maxHeartbeats 4000000 in
set_option maxRecDepth 20000 in
theorem plays_o2 (w : World) (b0 : Int) (al : Option Addr) (nl cl : Nat) (ap : Option Addr) (np cp : Nat) (h1 : ¬ 20 < b0) (h2 : (80 : Int) < (nl : Int)) : Calls Try.prog 3 #[.int .i64 b0, .slice al nl cl, .slice ap np cp] w fun e w' => e = .returned (.bool true) ∧ Below w.heap.size w w' := by
  have HA := Lib.hid A
  have Bw0 := Below.refl w.heap.size w
  clear A
  go_enter Try.func3, Try.ntmps3
  go_wp2_with (first
    | (have hgo := Bw0; clear hgo
       go_at_call 9
       refine (awake15_api HA.out _).mono ?_
       rintro e w1 ⟨rfl, kk⟩
       have Bw1 := Bw0.trans (kk.mono Bw0.size)
       clear Bw0 kk))
  go_ret
  exact ⟨rfl, Bw1⟩
set_option maxHeartbeats 4000000 in
set_option maxRecDepth 20000 in
theorem plays_o3 (w : World) (b0 : Int) (al : Option Addr) (nl cl : Nat) (ap : Option Addr) (np cp : Nat) (h1 : ¬ 20 < b0) (h2 : ¬ (80 : Int) < (nl : Int)) (h3 : (30 : Int) < (np : Int)) : Calls Try.prog 3 #[.int .i64 b0, .slice al nl cl, .slice ap np cp] w fun e w' => e = .returned (.bool true) ∧ Below w.heap.size w w' := by
  have HA := Lib.hid A
  have Bw0 := Below.refl w.heap.size w
  clear A
  go_enter Try.func3, Try.ntmps3
  go_wp2_with (first
    | (have hgo := Bw0; clear hgo
       go_at_call 9
       refine (awake15_api HA.out _).mono ?_
       rintro e w1 ⟨rfl, kk⟩
       have Bw1 := Bw0.trans (kk.mono Bw0.size)
       clear Bw0 kk))
  go_ret
  exact ⟨rfl, Bw1⟩
set_option maxHeartbeats 4000000 in
set_option maxRecDepth 20000 in
theorem plays_no (w : World) (b0 : Int) (al : Option Addr) (nl cl : Nat) (ap : Option Addr) (np cp : Nat) (h1 : ¬ 20 < b0) (h2 : ¬ (80 : Int) < (nl : Int)) (h3 : ¬ (30 : Int) < (np : Int)) (h4 : ¬ (1 ≤ b0 ∧ b0 ≤ 65536)) : Calls Try.prog 3 #[.int .i64 b0, .slice al nl cl, .slice ap np cp] w fun e w' => e = .returned (.bool true) ∧ Below w.heap.size w w' := by
  have HA := Lib.hid A
  have H4 := Lib.hid h4
  have Bw0 := Below.refl w.heap.size w
  clear A h4
  go_enter Try.func3, Try.ntmps3
  go_wp2_with (first
    | (have hgo := Bw0; clear hgo
       go_at_call 10
       refine (HA.out.newNo _ b0 H4.out).mono ?_
       rintro e w1 ⟨rfl, kk⟩
       have Bw1 := kk
       clear Bw0 kk)
    | (have hgo := Bw1; clear hgo
       go_at_call 11
       refine (devNew_no b0 _ H4.out).mono ?_
       rintro e w2 ⟨rfl, rfl⟩
       have Bw2 := Bw1
       clear Bw1)
    | (have hgo := Bw2; clear hgo
       go_at_call 9
       refine (awake15_api HA.out _).mono ?_
       rintro e w3 ⟨rfl, kk⟩
       have Bw3 := Bw2.trans (kk.mono Bw2.size)
       clear Bw2 kk))
  go_ret
  exact ⟨rfl, Bw3⟩
set_option maxHeartbeats 4000000 in
set_option maxRecDepth 20000 in
theorem plays_in (w : World) (n : Nat) (vl vp : Value) (L : List Sp) (P : List Int) (hL : Sps w vl L) (hP : NumsK .i64 w vp P) (hn1 : 1 ≤ n) (hn2 : n ≤ 20) (hl : L.length ≤ 80) (hp : P.length ≤ 30) : Calls Try.prog 3 #[.int .i64 (n : Int), vl, vp] w fun e w' => e = .returned (.bool true) ∧ Below w.heap.size w w' := by
  have HA := Lib.hid A
  have HSP := Lib.hid hL
  have HPV := Lib.hid hP.vs
  have HOKL := Lib.hid hL.ok
  obtain ⟨al, cl, rfl, hlc, hcm, hlx, hly⟩ := hL
  obtain ⟨ap, cp, rfl, hpa, hpb, hpc, hpd, hpe⟩ := hP
  clear hlc hcm hlx hly hpa hpb hpc hpd hpe
  generalize hnl : L.length = N at *
  generalize hnp : P.length = NP at *
  have HNL := Lib.hid hnl
  have HNP := Lib.hid hnp
  have g1 : ¬ (20 : Int) < (n : Int) := by omega
  have g2 : ¬ (80 : Int) < (N : Int) := by omega
  have g3 : ¬ (30 : Int) < (NP : Int) := by omega
  have HBD := Lib.hid (And.intro hn1 (And.intro hn2 (And.intro hl hp)))
  have HOK0 := Lib.hid (newS_ok n hn1 (by omega))
  have HGS : Hid (∀ wq : World, Below w.heap.size w wq → w.heap.size ≤ wq.heap.size) := Lib.hid fun wq h => h.size
  have Bw0 := Below.refl w.heap.size w
  clear A hn1 hn2 hl hp hnl hnp
  go_enter Try.func3, Try.ntmps3
  go_wp2_with (first
    | (have hgo := Bw0; clear hgo
       go_at_call 10
       refine (HA.out.newYes _ n HBD.out.1 (by have := HBD.out; omega)).mono ?_
       rintro e wn1 ⟨y, T, D, rfl, hb, hD, kk⟩
       have HB := Lib.hid hb
       have HD := Lib.hid hD
       have Bn1 := Bw0.trans (kk.mono Bw0.size)
       have BS := Lib.hid Bw0.size
       clear Bw0 kk hb hD)
    | (have hgo := Bn1; clear hgo
       go_at_call 11
       refine (devNew_yes T n _ (fun b hb => HA.out.lt _ _ _ _ _ HB.out b (HA.out.sub _ _ _ _ _ HB.out b hb)) HBD.out.1 (by have := HBD.out; omega)).mono ?_
       rintro e wn2 ⟨m, g, wb, rfl, l1, l2, l3, hd, kk⟩
       obtain ⟨hT, hM⟩ := two_new HA.out HB.out (fun b hb => Nat.le_trans BS.out (HD.out b hb)) Bn1 l1 l2 l3 hd kk
       have HT0 := Lib.hid hT
       have HM0 := Lib.hid hM
       have Bn2 := Bn1.trans (kk.mono Bn1.size)
       clear Bn1 kk hd l1 l2 l3 hT hM HB HD BS))
  go_loopw [11] (fun iv wr => ∃ (i : Nat) (M T D : Nat → Prop), i ≤ N ∧ iv = .int .i64 (i : Int) ∧ Two BkAt M T D y m g wb wr (stTo (newS n) L i) ∧ (∀ b, M b → w.heap.size ≤ b) ∧ Below w.heap.size w wr) (fun iv _ => N - (intOf iv).toNat)
  case atStart => exact ⟨0, _, T, D, Nat.zero_le _, rfl, HT0.out, HM0.out, Bn2⟩
  case round =>
    clear Bn2 HT0 HM0 T D
    obtain ⟨i, M, T, D, hi, rfl, hT, hM, Bw0⟩ := hrel
    by_cases hlt : i < N
    · have hiI : 0 ≤ (i : Int) ∧ (i : Int) < (N : Int) := by omega
      have hil : i < L.length := by rw [HNL.out]; exact hlt
      obtain ⟨bb, off, cap', he, _, _, hbl, hit⟩ := HSP.out.open_cons (by rw [HNL.out]; omega)
      rw [HNL.out] at he
      cases he
      have HCX := Lib.hid ((hit i hil).cells _ Bw0)
      have hok := stTo_ok HOK0.out L HOKL.out i (by rw [HNL.out]; exact Nat.le_of_lt hlt)
      have HXO := Lib.hid (HOKL.out L[i] (List.getElem_mem _))
      have HSU := Lib.hid (stTo_succ (newS n) L i hil)
      generalize L[i] = X at *
      have HT := Lib.hid hT
      have HM := Lib.hid hM
      have HOK := Lib.hid (hok.more (show 0 + i ≤ 1000 by have := HBD.out; omega))
      have HI := Lib.hid hlt
      obtain ⟨i1, hi1⟩ := nat_var (i + 1)
      have hwi : IntKind.i64.wrap ((i : Int) + 1) = (i1 : Int) := by rw [IntWalk.i64_in _ (by have := HBD.out; omega)]; omega
      have HI1 := Lib.hid hi1
      have M1 := Lib.hid hlt
      clear hi hlt hil hit hbl hi1 hT hM hok
      go_wp2_with (first
        | (have hgo := M1; clear hgo
           refine wpList_load_cellsW 34 (.tmp 59) rfl rfl 3 arrSp HCX.out rfl ?_
           clear M1)
        | (have hgo := Bw0; clear hgo
           go_at_call 12
           refine (does_any HA.out M T D y m g wb _ _ 1000 X HT.out HOK.out (by decide) HXO.out).mono ?_
           rintro e w4 ⟨rfl, hn⟩
           rw [← HSU.out] at hn
           obtain ⟨M4, T4, D4, hT4, hM4, Bw4⟩ := TwoNew.gone HA.out HT.out HM.out Bw0 hn
           have HT4 := Lib.hid hT4
           have HM4 := Lib.hid hM4
           clear Bw0 hn hT4 hM4))
      go_roundw
      case rel => exact ⟨i + 1, M4, T4, D4, HI.out, by rw [HI1.out], HT4.out, HM4.out, Bw4⟩
      case measure => (have := HI1.out; have := HI.out; simp [intOf]; try omega)
    · obtain rfl : i = N := by omega
      have hiI : ¬ (i : Int) < (i : Int) := by omega
      obtain ⟨S, hS⟩ : ∃ S, S = stTo (newS n) L i := ⟨_, rfl⟩
      have hok : okD S (0 + i) := by rw [hS]; exact stTo_ok HOK0.out L HOKL.out i (by rw [HNL.out]; exact Nat.le_refl _)
      rw [← hS] at hT
      have HT := Lib.hid hT
      have HOK := Lib.hid (hok.more (show 0 + i ≤ 100 by have := HBD.out; omega))
      clear hi hlt hT hM hS hok
      go_wp2_with (first
        | (have hgo := Bw0; clear hgo
           go_at_call 13
           refine (HA.out.crash T D _ y S 100 NP _ _ HT.out.bk HOK.out (by decide) (HPV.out.1.bel Bw0) (by have := HBD.out; omega) HPV.out.2).mono ?_
           rintro e w5 ⟨y5, T5, D5, rfl, hb5, kk, t5, d5⟩
           obtain ⟨hd5, hl5⟩ := made_dev HA.out HT.out hb5 kk t5
           have HT5 := Lib.hid (Two.bel HA.out HT.out kk)
           have HB5 := Lib.hid hb5
           have HD5 := Lib.hid (And.intro hd5 hl5)
           have Bw5 := zbt HGS Bw0 kk
           clear Bw0 kk hb5 hd5 hl5 t5 d5)
        | (have hgo := Bw5; clear hgo
           go_at_call 14
           refine (shows_any HA.out M T D y m g wb _ S 100 HT5.out HOK.out (by decide)).mono ?_
           rintro e w6 ⟨rfl, kk⟩
           have HB6 := Lib.hid (HA.out.stay _ _ (fun _ => False) _ _ _ _ HB5.out (Sam.of_below kk) (fun _ h => h.elim))
           have HD6 := Lib.hid (HD5.out.1.keep (F := fun _ => False) (Sam.of_below kk) (fun _ h => h.elim) (fun h => h) (fun h => h) (fun h => h))
           have HL6 : Hid (∀ b, (M b ∨ T5 b) → b < w6.heap.size) := Lib.hid fun b h => Nat.lt_of_lt_of_le (HD5.out.2 b h) kk.size
           have Bw6 := zbt HGS Bw5 kk
           clear Bw5 kk HB5 HD5)
        | (have hgo := Bw6; clear hgo
           go_at_call 15
           refine (devCrash_any _ m g wb S NP _ _ _ HD6.out HL6.out HOK.out.n1 HOK.out.n HOK.out.good HOK.out.pend (fun k => by have := HOK.out.cnt k; omega) (HPV.out.1.bel Bw6) (by have := HBD.out; omega) HPV.out.2).mono ?_
           rintro e w7 ⟨m2, g2, wb2, rfl, l1, l2, l3, hd7, kk⟩
           have HT7 := Lib.hid (made_two HA.out HB6.out HL6.out l1 l2 l3 hd7 kk)
           have Bw7 := zbt HGS Bw6 kk
           clear Bw6 kk l1 l2 l3 hd7 HB6 HD6 HL6)
        | (have hgo := Bw7; clear hgo
           go_at_call 14
           refine (shows_any HA.out _ T5 D5 y5 m2 g2 wb2 _ _ 0 HT7.out (crI_ok HOK.out NP _) (by decide)).mono ?_
           rintro e w8 ⟨rfl, kk⟩
           have Bw8 := zbt HGS Bw7 kk
           clear Bw7 kk)
        | (have hgo := Bw8; clear hgo
           go_at_call 9
           refine (awake15_api HA.out _).mono ?_
           rintro e w9 ⟨rfl, kk⟩
           have Bw9 := Bw8.trans (kk.mono Bw8.size)
           clear Bw8 kk))
      go_ret
      exact ⟨rfl, Bw9⟩
theorem blockPlays_api (w : World) (b0 : Int) (hb0 : (Lit.int .i64 b0).wf = true) (vl : Value) (L : List Sp) (hL : Sps w vl L) (vp : Value) (P : List Int) (hP : NumsK .i64 w vp P) : Calls Try.prog 3 #[.int .i64 b0, vl, vp] w fun e w' => e = .returned (.bool true) ∧ Below w.heap.size w w' := by
  have hL' := hL
  have hP' := hP
  obtain ⟨al, cl, rfl, _⟩ := hL
  obtain ⟨ap, cp, rfl, _⟩ := hP
  by_cases h1 : 20 < b0
  · exact plays_o1 A w b0 _ _ _ _ _ _ h1
  by_cases h2 : (80 : Int) < (L.length : Int)
  · exact plays_o2 A w b0 _ _ _ _ _ _ h1 h2
  by_cases h3 : (30 : Int) < (P.length : Int)
  · exact plays_o3 A w b0 _ _ _ _ _ _ h1 h2 h3
  by_cases h4 : 1 ≤ b0 ∧ b0 ≤ 65536
  · obtain ⟨n, rfl⟩ : ∃ n : Nat, b0 = (n : Int) := ⟨b0.toNat, by omega⟩
    exact plays_in A w n _ _ L P hL' hP' (by omega) (by omega) (by omega) (by omega)
  · exact plays_no A w b0 _ _ _ _ _ _ h1 h2 h3 h4
end
end Go.Proofs.Ytpilfjdhpahphaa

/- Images: the bytes of a block as a value, rows of them; a map of them by number. -/
namespace Go.Proofs.Ytpilfjdhpahphaa
open Go.RowKit Go.Deep
open Go.Maps (Keyed has)
set_option linter.unusedSimpArgs false
set_option linter.unusedVariables false

def imF (l : List UInt8) : Nat → Value := fun i => .int .u8 ((l.getD i 0).toNat : Int)
def imV (l : List UInt8) : Value := .agg (arrOf 64 (imF l))
def imC (L : Nat → List UInt8) : Nat → Value := fun j => imF (L (j / 64)) (j % 64)
theorem imC_at (L : Nat → List UInt8) (k i : Nat) (hi : i < 64) : imC L (k * 64 + i) = imF (L k) i := by
  unfold imC
  rw [show (k * 64 + i) / 64 = k by omega, show (k * 64 + i) % 64 = i by omega]
theorem isImg : IsArr Try.prog 64 64 := ⟨by kernel_rfl, by kernel_rfl⟩
theorem imF_zero : imF (List.replicate 64 0) = fun _ => .int .u8 0 := by
  funext i
  unfold imF
  rw [List.getD_eq_getElem?_getD]
  by_cases h : i < 64
  · rw [List.getElem?_replicate, if_pos h]; rfl
  · rw [List.getElem?_replicate, if_neg h]; rfl
theorem infoImg : (Try.prog.info? 64).map (fun i => (i.zero, i.size, i.bytes)) = some (some (.agg (arrOf 64 fun _ => .int .u8 0)), 64, 64) := by kernel_rfl
theorem infoIms : (Try.prog.info? 60).map (fun i => (i.zero, i.size, i.bytes)) = some (some (.slice none 0 0), 1, 24) := by kernel_rfl
theorem zeroImg : (Try.prog.info? 64).map (fun i => i.zero) = some (some (.agg (arrOf 64 fun _ => .int .u8 0))) := by kernel_rfl
/-- A slice of images that lies in a row of its own. -/
def Ims (w : World) (v : Value) (g n : Nat) (L : Nat → List UInt8) : Prop :=
  ∃ c f, v = .slice (some ⟨g, 0, none⟩) n c ∧ n ≤ c ∧ c ≤ maxLen ∧ w.rowIs g 64 (c * 64) f ∧ ∀ j, j < n * 64 → f j = imC L j
theorem Ims.lt {w : World} {v : Value} {g n : Nat} {L : Nat → List UInt8} (h : Ims w v g n L) : g < w.heap.size := by
  obtain ⟨c, f, _, _, _, hr, _⟩ := h
  exact hr.lt
theorem Ims.sam {F : Nat → Prop} {w w' : World} {v : Value} {g n : Nat} {L : Nat → List UInt8} (h : Ims w v g n L) (k : Sam F w w') (hF : ¬ F g) : Ims w' v g n L := by
  obtain ⟨c, f, h1, h2, h3, hr, h4⟩ := h
  exact ⟨c, f, h1, h2, h3, Sam.row hr k hF, h4⟩
theorem Ims.bel {w w' : World} {v : Value} {g n : Nat} {L : Nat → List UInt8} (h : Ims w v g n L) (k : Below w.heap.size w w') : Ims w' v g n L := h.sam (Sam.of_below (F := fun _ => False) k) fun x => x
theorem Ims.drew {w : World} {v : Value} {g n : Nat} {L : Nat → List UInt8} (h : Ims w v g n L) : Ims w.drew v g n L := h
theorem Ims.congr {w : World} {v : Value} {g n : Nat} {L M : Nat → List UInt8} (h : Ims w v g n L) (e : ∀ i, i < n → L i = M i) : Ims w v g n M := by
  obtain ⟨c, f, h1, h2, h3, hr, h4⟩ := h
  refine ⟨c, f, h1, h2, h3, hr, fun j hj => ?_⟩
  rw [h4 j hj]
  unfold imC
  rw [e (j / 64) (by omega)]
theorem Ims.shape {w : World} {v : Value} {g n : Nat} {L : Nat → List UInt8} (h : Ims w v g n L) : ∃ c, v = .slice (some ⟨g, 0, none⟩) n c ∧ n ≤ c ∧ c ≤ maxLen := by
  obtain ⟨c, f, h1, h2, h3, _⟩ := h
  exact ⟨c, h1, h2, h3⟩
theorem Ims.cell {w : World} {v : Value} {g n : Nat} {L : Nat → List UInt8} (h : Ims w v g n L) (k : Nat) (hk : k < n) : ∀ j, j < 64 → w.cell? ⟨g, k * 64 + j, none⟩ = some (imF (L k) j) := fun j hj => by
  obtain ⟨c, f, h1, h2, h3, hr, h4⟩ := h
  rw [hr.cell (by omega), h4 _ (by omega), imC_at _ _ _ hj]
theorem Ims.owns {w : World} {v : Value} {g n base : Nat} {L : Nat → List UInt8} (h : Ims w v g n L) (hb : base ≤ g) : w.ownsRow base 64 64 v n ((List.range (n * 64)).map (imC L)) := by
  obtain ⟨c, f, rfl, h2, h3, ⟨cur, k1, k2, k3⟩, h4⟩ := h
  refine ⟨by simp, .inr ⟨g, c, cur, rfl, hb, k1, h2, h3, k2, ?_⟩⟩
  refine List.ext_getElem? fun i => ?_
  by_cases hi : i < n * 64
  · rw [List.getElem?_take_of_lt hi, Array.getElem?_toList, k3 i (by omega), h4 i hi, List.getElem?_map, List.getElem?_range hi]
    rfl
  · rw [List.getElem?_eq_none (by simp; omega), List.getElem?_eq_none (by simpa using hi)]
theorem ims_of_owns {w : World} {v : Value} {n base : Nat} {L : Nat → List UInt8} {xs : List Value} (h : w.ownsRow base 64 64 v n xs) (h0 : 0 < n) (hx : ∀ j, j < n * 64 → xs[j]? = some (imC L j)) : ∃ g, Ims w v g n L ∧ v.ownBlock = some g ∧ base ≤ g := by
  obtain ⟨h1, ⟨rfl, hn⟩ | ⟨g, c, cur, rfl, hb, k1, k2, k3, k4, k5⟩⟩ := h
  · omega
  · refine ⟨g, ⟨c, fun i => cur.getD i undef, rfl, k2, k3, ⟨cur, k1, k4, fun i hi => ?_⟩, fun j hj => ?_⟩, rfl, hb⟩
    · have hic : i < cur.size := by rw [k4]; exact hi
      simp [Array.getD_eq_getD_getElem?, Array.getElem?_eq_getElem hic]
    · have h3 := hx j hj
      rw [← k5, List.getElem?_take_of_lt hj, Array.getElem?_toList] at h3
      show cur.getD j undef = _
      rw [Array.getD_eq_getD_getElem?, h3]
      rfl
theorem Ims.own {w : World} {v : Value} {g n : Nat} {L : Nat → List UInt8} (h : Ims w v g n L) : v.ownBlock = some g := by
  obtain ⟨c, _, rfl, _⟩ := h
  rfl
/-- Images behind images: what is answered lies where the first ones lay, or in a block of its own. -/
theorem exec_appI {w : World} (ρ : Operand → Value) (s x : Operand) (ty : TypeId) (v vb : Value) (n m gb : Nat) (L M : Nat → List UInt8) (hown : (∃ g, Ims w v g n L) ∨ (n = 0 ∧ (v = .slice none 0 0 ∨ ∃ g, w.ownsRow g 64 64 v 0 []))) (hb : Ims w vb gb m M) (h0 : 0 < m) (hs : ρ s = v) (hx : ρ x = vb) (hlen : n + m ≤ 1000000) :
    ∃ v' w' g', (execOp ρ (mkOp (.call { callee := .builtin .append, args := #[s, x], argTypes := #[60, 60] }) ty)).run Try.prog w = .ok (.value v') w' ∧ Ims w' v' g' (n + m) (fun i => if i < n then L i else M (i - n)) ∧ Sam (fun b => v.ownBlock = some b) w w' ∧ (v.ownBlock = some g' ∨ w.heap.size ≤ g') := by
  obtain ⟨i0, hi, hz0, hz1, hz2⟩ := info_parts infoImg
  obtain ⟨c, rfl, hc1, hc2⟩ := hb.shape
  have hcell : ∀ j, j < m * 64 → w.cell? ⟨gb, j, none⟩ = some (imC M j) := fun j hj => by
    have := hb.cell (j / 64) (by omega) (j % 64) (by omega)
    rw [show j / 64 * 64 + j % 64 = j by omega] at this
    exact this
  have hown' : ∃ base xs, base ≤ w.heap.size ∧ w.ownsRow base 64 64 v n xs ∧ ∀ j, j < n * 64 → xs[j]? = some (imC L j) := by
    rcases hown with ⟨g, hg⟩ | ⟨rfl, rfl | ⟨g, hg⟩⟩
    · exact ⟨g, _, Nat.le_of_lt hg.lt, hg.owns (Nat.le_refl _), fun j hj => by rw [List.getElem?_map, List.getElem?_range hj]; rfl⟩
    · exact ⟨0, _, Nat.zero_le _, World.ownsRow_nil _ _ _ _, fun j hj => by omega⟩
    · by_cases hgs : g ≤ w.heap.size
      · exact ⟨g, _, hgs, hg, fun j hj => by omega⟩
      · have := World.ownsRow.lt hg
        obtain ⟨h1, ⟨rfl, hn⟩ | ⟨g2, c2, cur, rfl, hb2, k1, _⟩⟩ := hg
        · exact ⟨0, _, Nat.zero_le _, World.ownsRow_nil _ _ _ _, fun j hj => by omega⟩
        · have := this g2 rfl
          omega
  obtain ⟨base, xs, hbs, ho, hxs⟩ := hown'
  have hxl : xs.length = n * 64 := ho.1
  have hm9 : n + m ≤ maxLen := by unfold maxLen; omega
  have hby : (n + m) * 64 ≤ 140737488355328 := by omega
  obtain ⟨v', w', hrun, k1, k2, k3, k4⟩ := run_append_own_at (P := Try.prog) w base 60 ty 64 i0 _ 64 64 Try.underlying60 hi hz0 hz1 hz2 (by simp [Value.cells, arrOf_size]) (by decide) v n xs ho ⟨gb, 0, none⟩ m c ((List.range (m * 64)).map (imC M)) (by simp)
    (fun j u hj => by
      obtain ⟨hj1, rfl⟩ := List.getElem?_eq_some_iff.1 hj
      have hj2 : j < m * 64 := by simpa using hj1
      rw [Addr.add_lit, Nat.zero_add, hcell j hj2]
      simp)
    (fun u hu => by
      rw [List.mem_map] at hu
      obtain ⟨i, _, rfl⟩ := hu
      rfl) hm9 hby hbs
  obtain ⟨g', q1, q2, q3⟩ := ims_of_owns (L := fun i => if i < n then L i else M (i - n)) k1 (by omega) (fun j hj => by
    unfold imC
    by_cases h : j < n * 64
    · rw [List.getElem?_append_left (by omega), hxs j h]
      show some (imC L j) = some (imF (if j / 64 < n then L (j / 64) else M (j / 64 - n)) (j % 64))
      rw [if_pos (by omega)]
      rfl
    · rw [List.getElem?_append_right (by omega), List.getElem?_map, hxl, List.getElem?_range (by omega)]
      show some (imC M (j - n * 64)) = some (imF (if j / 64 < n then L (j / 64) else M (j / 64 - n)) (j % 64))
      rw [if_neg (by omega), show j / 64 - n = (j - n * 64) / 64 by omega, show j % 64 = (j - n * 64) % 64 by omega]
      rfl)
  refine ⟨v', w', g', ?_, q1, Sam.of_grown k2 fun b h => h, ?_⟩
  · simp [execOp, mkOp, resolve, invoke, builtin, hs, hx, hrun, Result.andThen]
  · rw [q2] at k4
    rcases k4 with k4 | k4
    · exact .inl k4.symm
    · right
      have := Option.some.inj k4
      omega
/-- Whatever op of which the run is known. -/
theorem wval {ops : Array Oper} {rest : List Oper} {o : Oper} {a : Act} {w w' : World} {Q : Exit → Act → World → Prop} (hgd : o.guard = none) (op : Op) (hop : o.op = op) (v : Value) (hx : (execOp a.eval (mkOp op o.type)).run Try.prog w = .ok (.value v) w') (h : wpList Try.prog ops Q rest (a.put o.dst v) w') : wpList Try.prog ops Q (o :: rest) a w :=
  wpList_value hgd v (by rw [exec_mkOp, hop]; exact hx) h
/-- An image's place. -/
theorem exec_ixI {w : World} (ρ : Operand → Value) (x y : Operand) (ty : TypeId) {g n c k : Nat} (hx : ρ x = .slice (some ⟨g, 0, none⟩) n c) (hy : ρ y = .int .i64 (k : Int)) (hk : k < n) : (execOp ρ (mkOp (.indexAddr 60 x y) ty)).run Try.prog w = .ok (.value (.pointer (some ⟨g, k * 64, none⟩))) w := by
  obtain ⟨i0, hi, hz0, hz1, hz2⟩ := info_parts infoImg
  simp [execOp, mkOp, hx, hy, Instr.indexAt, asIntOf, run_underlying Try.underlying60 w, sizeOf, typeInfo, hi, hz1, hk, Result.andThen, Addr.add_lit]
theorem exec_loadI {w : World} (ρ : Operand → Value) (x : Operand) (ty : TypeId) {g off : Nat} {f : Nat → Value} (hx : ρ x = .pointer (some ⟨g, off, none⟩)) (hc : ∀ j, j < 64 → w.cell? ⟨g, off + j, none⟩ = some (f j)) : (execOp ρ (mkOp (.load 64 x) ty)).run Try.prog w = .ok (.value (.agg (arrOf 64 f))) w := by
  unfold execOp mkOp
  simp only [hx, Instr.loadAt, Instr.sureAddr, Sem.run_bind, Sem.run_pure, Result.andThen_ok, run_load_cellsW hc isImg]
/-- A slice as an array's place. -/
theorem exec_s2a {w : World} (ρ : Operand → Value) (x : Operand) (ty : TypeId) {a : Option Addr} {n c : Nat} (hx : ρ x = .slice a n c) (hn : n = 64) : (execOp ρ (mkOp (.sliceToArrayPointer 64 x) ty)).run Try.prog w = .ok (.value (.pointer a)) w := by
  subst hn
  simp [execOp, mkOp, hx, Instr.arrayAt, run_underlying Try.underlying64 w, Result.andThen]
theorem set_putN (n off k : Nat) (f g : Nat → Value) (h : off + k < n) : (arrOf n (putN f off k g)).setIfInBounds (off + k) (g k) = arrOf n (putN f off (k + 1) g) := by
  apply Array.ext
  · rw [Array.size_setIfInBounds, arrOf_size, arrOf_size]
  · intro i h1 h2
    rw [arrOf_size] at h2
    rw [Array.getElem_setIfInBounds (by rw [arrOf_size]; exact h2)]
    have e1 : ∀ F : Nat → Value, ∀ hh : i < (arrOf n F).size, (arrOf n F)[i]'hh = F i := fun F hh => by simp [arrOf]
    rw [e1, e1]
    unfold putN
    by_cases e : off + k = i
    · subst e
      rw [if_pos rfl, if_pos (by omega), Nat.add_sub_cancel_left]
    · rw [if_neg e]
      by_cases h3 : off ≤ i ∧ i < off + k
      · rw [if_pos h3, if_pos (by omega)]
      · rw [if_neg h3, if_neg (by omega)]
theorem zip_range (g : Nat → Value) (k : Nat) : ((List.range k).map g).zipIdx = (List.range k).map fun j => (g j, j) := by
  apply List.ext_getElem
  · simp
  · intro i h1 h2
    simp
theorem fold_putN (n off : Nat) (f g : Nat → Value) : ∀ k, off + k ≤ n → ((List.range k).map fun j => (g j, j)).foldl (fun (cs : Array Value) (x : Value × Nat) => cs.setIfInBounds (off + x.2) x.1) (arrOf n f) = arrOf n (putN f off k g)
  | 0, _ => arrOf_congr fun i _ => by unfold putN; rw [if_neg (by omega)]
  | k + 1, h => by
    rw [List.range_succ, List.map_append, List.foldl_append, fold_putN n off f g k (by omega)]
    exact set_putN n off k f g (by omega)
theorem fill_row {place : Nat → Option (Nat × Nat)} {n k off i : Nat} {f g : Nat → Value} {rest : List (Nat × Value)} (hp : place i = some (off, k)) (h : off + k ≤ n) : Instr.fill place (arrOf n f) ((i, .agg (arrOf k g)) :: rest) = Instr.fill place (arrOf n (putN f off k g)) rest := by
  have h1 : (Value.agg (arrOf k g)).cells = arrOf k g := rfl
  rw [Instr.fill, hp]
  simp only [h1, arrOf_size]
  rw [if_neg (by simp; omega)]
  congr 1
  rw [← fold_putN n off f g k h, ← zip_range, ← Array.foldl_toList, Array.toList_zipIdx]
  rfl
theorem zeros_img : (Array.range (1 * 64)).map (fun i => (arrOf 64 fun _ => Value.int .u8 0)[i % 64]!) = arrOf 64 (fun _ => Value.int .u8 0) := by kernel_rfl
/-- A slice of one image. -/
theorem exec_oneI {w : World} (ρ : Operand → Value) (x : Operand) (ty : TypeId) {f : Nat → Value} (hx : ρ x = .agg (arrOf 64 f)) : (execOp ρ (mkOp (.buildSlice 60 1 #[(0, x)]) ty)).run Try.prog w = .ok (.value (.slice (some ⟨w.heap.size, 0, none⟩) 1 1)) (w.alloc (.cells (arrOf 64 f) 64)) := by
  obtain ⟨i0, hi, hz0, hz1, hz2⟩ := info_parts infoImg
  simp only [execOp, mkOp, List.map_toArray, List.map_cons, List.map_nil, hx]
  have hz : (zeroValue 64).run Try.prog w = .ok (.agg (arrOf 64 fun _ => .int .u8 0)) w := by simp [zeroValue, typeInfo, hi, hz0]
  have hf : Instr.fill (fun i => some (i * 64, 64)) (arrOf 64 fun _ => .int .u8 0) [(0, .agg (arrOf 64 f))] = some (arrOf 64 f) := by
    rw [fill_row (off := 0) (by simp) (by omega)]
    exact congrArg some (arrOf_congr fun i hi => by unfold putN; rw [if_pos (by omega)]; rfl)
  have hzi := zeros_img
  simp [Instr.buildSlice, run_underlying Try.underlying60 w, sizeOf, typeInfo, hi, hz1, hz, Result.andThen, Value.cells, arrOf_size, newRow, newObj]
  simp only [Nat.one_mul] at hzi
  rw [hzi, hf]
  rfl
end Go.Proofs.Ytpilfjdhpahphaa

/- A map of images' slices by number: what it holds, a look-up, a store, a range. -/
namespace Go.Proofs.Ytpilfjdhpahphaa
open Go.RowKit Go.Deep
open Go.Maps (Keyed has IsMap)
set_option linter.unusedSimpArgs false
set_option linter.unusedVariables false

abbrev nilV : Value := .slice none 0 0
def RV : Value → Option (DataW Value × List MemPlace) := fun v => some (.held v, [])
def MpD (D : DataW Value) (n : Nat) (pv : Nat → Value) : Prop :=
  IsMap D ∧ (∀ k : Nat, k < n → D.atKey (.int .i64 (k : Int)) (.held nilV) = .held (pv k)) ∧ (∀ kl, has D kl = true → ∃ k : Nat, k < n ∧ kl = .int .i64 (k : Int) ∧ pv k ≠ nilV) ∧ ∀ k : Nat, k < n → pv k ≠ nilV → has D (.int .i64 (k : Int)) = true
/-- Block b is a map that holds of the numbers below n what pv says (nil: nothing), N stores at most. -/
def MpAt (w : World) (b N n : Nat) (pv : Nat → Value) : Prop := ∃ D, w.ownsMap Try.prog 3 RV b N D ∧ MpD D n pv
theorem MpAt.lt {w : World} {b N n : Nat} {pv : Nat → Value} (h : MpAt w b N n pv) : b < w.heap.size := by
  obtain ⟨D, h, _⟩ := h
  exact h.lt
theorem MpAt.sam {F : Nat → Prop} {w w' : World} {b N n : Nat} {pv : Nat → Value} (h : MpAt w b N n pv) (k : Sam F w w') (hb : ¬ F b) : MpAt w' b N n pv := by
  obtain ⟨D, ⟨es, clock, h1, h2, h3, h4⟩, hD⟩ := h
  exact ⟨D, ⟨es, clock, (k.block b (Array.getElem?_eq_some_iff.1 h1).1 hb).trans h1, h2, h3, h4⟩, hD⟩
theorem MpAt.bel {w w' : World} {b N n : Nat} {pv : Nat → Value} (h : MpAt w b N n pv) (k : Below w.heap.size w w') : MpAt w' b N n pv := h.sam (Sam.of_below (F := fun _ => False) k) fun x => x
theorem MpAt.drew {w : World} {b N n : Nat} {pv : Nat → Value} (h : MpAt w b N n pv) : MpAt w.drew b N n pv := h
theorem MpAt.more {w : World} {b N M n : Nat} {pv : Nat → Value} (h : MpAt w b N n pv) (hM : N ≤ M) : MpAt w b M n pv := by
  obtain ⟨D, h, hD⟩ := h
  exact ⟨D, h.mono hM, hD⟩
theorem MpAt.congr {w : World} {b N n : Nat} {pv qv : Nat → Value} (h : MpAt w b N n pv) (e : ∀ k, k < n → pv k = qv k) : MpAt w b N n qv := by
  obtain ⟨D, h, h1, h2, h3, h4⟩ := h
  refine ⟨D, h, h1, fun k hk => by rw [← e k hk]; exact h2 k hk, fun kl hkl => ?_, fun k hk hn => h4 k hk (by rw [e k hk]; exact hn)⟩
  obtain ⟨k, q1, q2, q3⟩ := h3 kl hkl
  exact ⟨k, q1, q2, by rw [← e k q1]; exact q3⟩
theorem mp_made (w : World) (n : Nat) : MpAt (w.alloc (.map #[] 0)) w.heap.size 0 n fun _ => nilV :=
  ⟨_, World.ownsMap_made w _ _ _, ⟨_, rfl⟩, fun k hk => rfl, fun kl h => by simp [has] at h, fun k hk h => absurd rfl h⟩
theorem keyNat (k : Nat) (hk : k < 1000000000) : keyOf Try.prog 3 (.int .i64 (k : Int)) = some (.int .i64 (k : Int)) := Maps.keyOf_int_mk Try.underlying3 (WalkArith.wf_i64 (by omega))
theorem keyedI : Keyed Try.prog 3 := Maps.int_keyed Try.underlying3
theorem zeroIms (w : World) : (zeroValue 60).run Try.prog w = .ok nilV w := by
  obtain ⟨i0, hi, hz0, hz1, hz2⟩ := info_parts infoIms
  simp [zeroValue, typeInfo, hi, hz0]
theorem litNat {j k : Nat} (h : j ≠ k) : (Lit.int .i64 (j : Int)) ≠ .int .i64 (k : Int) := fun e => h (Int.ofNat.inj (Lit.int.inj e).2)
theorem isKeyNat {k : Nat} (hk : k < 1000000000) : WideAt.IsKeyLit (Lit.int .i64 (k : Int)) := keyedI.key (keyNat k hk)
theorem exec_lookM {w : World} (ρ : Operand → Value) (x y : Operand) (ty : TypeId) {b N n k : Nat} {pv : Nat → Value} (h : MpAt w b N n pv) (hx : ρ x = .map (some b)) (hy : ρ y = .int .i64 (k : Int)) (hk : k < n) (hn : n < 1000000000) :
    (execOp ρ (mkOp (.lookup 65 x y false) ty)).run Try.prog w = .ok (.value (pv k)) w := by
  obtain ⟨D, h, h1, h2, h3, h4⟩ := h
  obtain ⟨v, ps, hr, hv⟩ := h.lookup keyedI Try.underlying65 (zeroIms w) (zd := .held nilV) (zp := []) rfl (keyNat k (by omega))
  rw [h2 k hk] at hv
  have e : v = pv k := DataW.held.inj (congrArg Prod.fst (Option.some.inj hv))
  subst e
  simp [execOp, mkOp, hx, hy, hr, Result.andThen]
theorem exec_updM {w : World} (ρ : Operand → Value) (x y z : Operand) (ty : TypeId) {b N n k : Nat} {pv : Nat → Value} {v : Value} (h : MpAt w b N n pv) (hx : ρ x = .map (some b)) (hy : ρ y = .int .i64 (k : Int)) (hz : ρ z = v) (hk : k < n) (hn : n < 1000000000) (hv : v ≠ nilV) (hN : N < maxLen) :
    ∃ w', (execOp ρ (mkOp (.mapUpdate 65 x y z) ty)).run Try.prog w = .ok .skip w' ∧ MpAt w' b (N + 1) n (updF pv k v) ∧ Sam (· = b) w w' := by
  obtain ⟨D, h, h1, h2, h3, h4⟩ := h
  have hkk := isKeyNat (k := k) (by omega)
  obtain ⟨w', hr, q1, q2⟩ := h.update keyedI Try.underlying65 hN (val := v) (d := .held v) (ps := []) (keyNat k (by omega)) rfl
  refine ⟨w', ?_, ⟨_, q1, h1.put _ _, fun j hj => ?_, fun kl hkl => ?_, fun j hj hjn => ?_⟩, Sam.of_grown q2 fun c hc => (Option.some.inj hc).symm⟩
  · simp [execOp, mkOp, hx, hy, hz, hr, Result.andThen]
  · unfold updF
    by_cases e : j = k
    · subst e
      rw [if_pos rfl, Maps.atKey_put_same h1 hkk]
    · rw [if_neg e, Maps.atKey_put_other (litNat e), h2 j hj]
  · by_cases e : kl = .int .i64 (k : Int)
    · exact ⟨k, hk, e, by unfold updF; rw [if_pos rfl]; exact hv⟩
    · rw [Maps.has_put_other e] at hkl
      obtain ⟨j, q3, q4, q5⟩ := h3 kl hkl
      refine ⟨j, q3, q4, ?_⟩
      unfold updF
      rw [if_neg (fun h => e (by rw [q4, h]))]
      exact q5
  · by_cases e : j = k
    · subst e
      exact Maps.has_put_same h1 hkk _
    · rw [Maps.has_put_other (litNat e)]
      refine h4 j hj ?_
      unfold updF at hjn
      rwa [if_neg e] at hjn
/-- A range over the map under way. -/
def Rg (w : World) (b r N n : Nat) (pv : Nat → Value) (left : Nat → Bool) (cnt : Nat) : Prop :=
  ∃ D lf, w.ranges Try.prog 3 RV b r N D lf cnt ∧ MpD D n pv ∧ ∀ k, k < n → lf (.int .i64 (k : Int)) = left k
theorem Rg.at {w : World} {b r N n : Nat} {pv : Nat → Value} {left : Nat → Bool} {cnt : Nat} (h : Rg w b r N n pv left cnt) : MpAt w b N n pv := by
  obtain ⟨D, lf, h1, h2, _⟩ := h
  exact ⟨D, h1.owns, h2⟩
theorem Rg.left_eq {w : World} {b r N n : Nat} {pv : Nat → Value} {left : Nat → Bool} {cnt : Nat} (h : Rg w b r N n pv left cnt) : w.rangeLeft b r = cnt := by
  obtain ⟨D, lf, h1, _⟩ := h
  exact h1.left_eq
theorem Rg.lt {w : World} {b r N n : Nat} {pv : Nat → Value} {left : Nat → Bool} {cnt : Nat} (h : Rg w b r N n pv left cnt) : r < w.heap.size := by
  obtain ⟨D, lf, h1, _⟩ := h
  exact h1.lt
theorem Rg.sam {F : Nat → Prop} {w w' : World} {b r N n : Nat} {pv : Nat → Value} {left : Nat → Bool} {cnt : Nat} (h : Rg w b r N n pv left cnt) (k : Sam F w w') (hb : ¬ F b) (hr : ¬ F r) : Rg w' b r N n pv left cnt := by
  obtain ⟨D, lf, h1, h2, h3⟩ := h
  have l1 := h1.owns.lt
  have l2 := h1.lt
  obtain ⟨es, clock, since, seen, c0, hb', F', hs, hD, hr', rest⟩ := h1
  exact ⟨D, lf, ⟨es, clock, since, seen, c0, (k.block b l1 hb).trans hb', F', hs, hD, (k.block r l2 hr).trans hr', rest⟩, h2, h3⟩
theorem Rg.bel {w w' : World} {b r N n : Nat} {pv : Nat → Value} {left : Nat → Bool} {cnt : Nat} (h : Rg w b r N n pv left cnt) (k : Below w.heap.size w w') : Rg w' b r N n pv left cnt := h.sam (Sam.of_below (F := fun _ => False) k) (fun x => x) fun x => x
theorem Rg.drew {w : World} {b r N n : Nat} {pv : Nat → Value} {left : Nat → Bool} {cnt : Nat} (h : Rg w b r N n pv left cnt) : Rg w.drew b r N n pv left cnt := h
section
variable {ops : Array Oper} {rest : List Oper} {o : Oper} {a : Act} {w : World} {Q : Exit → Act → World → Prop}
theorem wrangeM (hg : o.guard = none) (m : Operand) (hop : o.op = .range 65 m) {b N n : Nat} {pv : Nat → Value} (h : MpAt w b N n pv) (hm : a.eval m = .map (some b))
    (hK : ∀ w' left cnt, Rg w' b w.heap.size N n pv left cnt → (∀ k, k < n → (left k = true ↔ pv k ≠ nilV)) → cnt ≤ N → Below w.heap.size w w' → wpList Try.prog ops Q rest (a.put o.dst (.pointer (some ⟨w.heap.size, 0, none⟩))) w') : wpList Try.prog ops Q (o :: rest) a w := by
  obtain ⟨D, h, hD⟩ := h
  refine wpList_range_own w hg m _ hop _ _ keyedI Try.underlying65 RV b N D hm h fun w' r1 r2 r3 => ?_
  refine hK w' (fun k => has D (.int .i64 (k : Int))) _ ⟨D, _, r1, hD, fun k _ => rfl⟩ (fun k hk => ⟨fun hh => ?_, hD.2.2.2 k hk⟩) h.size_le ⟨r2.os, r2.tape, r2.output, r2.size, fun k hk => r2.block k hk (by simp)⟩
  obtain ⟨j, q1, q2, q3⟩ := hD.2.2.1 _ hh
  have : k = j := Int.ofNat.inj (Lit.int.inj q2).2
  subst this
  exact q3
theorem wnextM (hg : o.guard = none) (it : Operand) (hop : o.op = .next it false) {b r N n cnt : Nat} {pv : Nat → Value} {left : Nat → Bool} (h : Rg w b r N n pv left cnt) (hit : a.eval it = .pointer (some ⟨r, 0, none⟩))
    (hDone : (∀ k, k < n → left k = false) → wpList Try.prog ops Q rest (a.put o.dst (.tuple #[.bool false])) w)
    (hMore : ∀ (k : Nat) w' cnt', k < n → left k = true → pv k ≠ nilV → Rg w' b r N n pv (fun j => left j && !(j == k)) cnt' → cnt' < cnt → Sam (· = r) w w' → (Instr.entry (.pointer (some ⟨r, 0, none⟩))).run Try.prog w' = .ok (.tuple #[.int .i64 (k : Int), pv k]) w' → wpList Try.prog ops Q rest (a.put o.dst (.tuple #[.bool true, .int .i64 (k : Int), pv k])) w') :
    wpList Try.prog ops Q (o :: rest) a w := by
  obtain ⟨D, lf, h, hD, hl⟩ := h
  refine wpList_next_ranges w hg it hop _ keyedI RV id id (fun key kl _ => ⟨key, rfl⟩) (fun v y _ => ⟨v, rfl⟩) b r N D lf cnt hit h (fun _ h0 => hDone fun k hk => by rw [← hl k hk]; exact h0 _) fun key v kl y w' cnt' hkey hlk hv hat hrg hlt hgr hsz hen => ?_
  have hh := Maps.has_true_of_atKey hat
  obtain ⟨k, q1, rfl, q3⟩ := hD.2.2.1 _ hh
  obtain ⟨x, e1, e2, e3⟩ := Maps.keyOf_int_inv Try.underlying3 hkey
  injection e2 with _ e2
  subst e2
  have ev : v = pv k := by
    have h1 := hD.2.1 k q1
    rw [hat] at h1
    rw [← congrArg Prod.fst (Option.some.inj hv)] at h1
    exact DataW.held.inj h1
  have ek : key = .int .i64 (k : Int) := e1
  subst ev ek
  refine hMore k w' cnt' q1 (by rw [← hl k q1]; exact hlk) q3 ⟨D, _, hrg, hD, fun j hj => ?_⟩ hlt (Sam.of_grown hgr fun c hc => (Option.some.inj hc).symm) hen
  show (lf _ && !_) = _
  rw [hl j hj]
  congr 2
  by_cases e : j = k
  · subst e
    simp [Lit.sameKey]
  · rw [Maps.sameKey_ne (litNat e)]
    simp [e]
end
end Go.Proofs.Ytpilfjdhpahphaa

/- The program's device: where it lies; Len, Off, Ops, has, begin, Cut, fresh, New. -/
namespace Go.Proofs.Ytpilfjdhpahphaa
open Go.RowKit Go.Deep
open Go.Maps (Keyed has IsMap)
set_option linter.unusedSimpArgs false
set_option linter.unusedVariables false

/-- The cells of the power stand for the state's. -/
def lrel (S : DS) (rc : Bool) (rl : Int) : Prop := (S.off = true → rc = true ∧ rl = 0) ∧ (S.off = false → rc = S.cut ∧ (S.cut = true → rl = if S.left < 0 then 0 else S.left))
/-- What lies in memory of a device: its blocks, and what is pending. -/
structure BkM (y g b : Nat) (vg : Value) (pv : Nat → Value) (pb : Nat → Nat) (w : World) (N n : Nat) (good : Nat → List UInt8) (pend : Nat → List (List UInt8)) : Prop where
  n1 : 1 ≤ n
  nn : n ≤ 65536
  lg : Ims w vg g n good
  mp : MpAt w b N n pv
  pd : ∀ k, k < n → (pend k = [] ∧ pv k = nilV) ∨ (pend k ≠ [] ∧ Ims w (pv k) (pb k) (pend k).length fun i => (pend k).getD i [])
  yg : y ≠ g
  yb : y ≠ b
  gb : g ≠ b
  py : ∀ k, k < n → pend k ≠ [] → pb k ≠ y ∧ pb k ≠ g ∧ pb k ≠ b
  pp : ∀ j k, j < n → k < n → pend j ≠ [] → pend k ≠ [] → j ≠ k → pb j ≠ pb k
def ownB (y g b n : Nat) (pb : Nat → Nat) (pend : Nat → List (List UInt8)) : Nat → Prop := fun x => x = y ∨ x = g ∨ x = b ∨ ∃ k, k < n ∧ pend k ≠ [] ∧ x = pb k
/-- A device lies at y. -/
def BkAtS (d : Nat) (T D : Nat → Prop) (w : World) (y : Nat) (S : DS) : Prop :=
  ∃ g b c pv pb rc rl N, w.rowIs y 67 6 (devF (.slice (some ⟨g, 0, none⟩) S.n c) (.map (some b)) S.ops rc rl S.off) ∧ BkM y g b (.slice (some ⟨g, 0, none⟩) S.n c) pv pb w N S.n S.good S.pend ∧ N + d ≤ S.ops ∧ lrel S rc rl ∧ (∀ x, T x ↔ ownB y g b S.n pb S.pend x) ∧ ∀ x, D x ↔ ownB y g b S.n pb S.pend x
abbrev BkAt (T D : Nat → Prop) (w : World) (y : Nat) (S : DS) : Prop := BkAtS 0 T D w y S
theorem BkAtS.weak {d : Nat} {T D : Nat → Prop} {w : World} {y : Nat} {S : DS} (h : BkAtS d T D w y S) : BkAt T D w y S := by
  obtain ⟨g, b, c, pv, pb, rc, rl, N, h1, h2, h3, h4⟩ := h
  exact ⟨g, b, c, pv, pb, rc, rl, N, h1, h2, by omega, h4⟩
theorem BkM.sam {F : Nat → Prop} {y g b : Nat} {vg : Value} {pv : Nat → Value} {pb : Nat → Nat} {w w' : World} {N n : Nat} {good : Nat → List UInt8} {pend : Nat → List (List UInt8)} (h : BkM y g b vg pv pb w N n good pend) (k : Sam F w w') (hF : ∀ x, F x → x = y ∨ ¬ ownB y g b n pb pend x) : BkM y g b vg pv pb w' N n good pend := by
  have no : ∀ x, x ≠ y → ownB y g b n pb pend x → ¬ F x := fun x hx ho hf => (hF x hf).elim hx fun hn => hn ho
  refine ⟨h.n1, h.nn, h.lg.sam k (no _ (Ne.symm h.yg) (.inr (.inl rfl))), h.mp.sam k (no _ (Ne.symm h.yb) (.inr (.inr (.inl rfl)))), fun i hi => (h.pd i hi).imp id fun ⟨q1, q2⟩ => ⟨q1, q2.sam k (no _ (h.py i hi q1).1 (.inr (.inr (.inr ⟨i, hi, q1, rfl⟩))))⟩, h.yg, h.yb, h.gb, h.py, h.pp⟩
theorem BkM.bel {y g b : Nat} {vg : Value} {pv : Nat → Value} {pb : Nat → Nat} {w w' : World} {N n : Nat} {good : Nat → List UInt8} {pend : Nat → List (List UInt8)} (h : BkM y g b vg pv pb w N n good pend) (k : Below w.heap.size w w') : BkM y g b vg pv pb w' N n good pend := h.sam (Sam.of_below (F := fun _ => False) k) fun _ x => x.elim
theorem BkM.drew {y g b : Nat} {vg : Value} {pv : Nat → Value} {pb : Nat → Nat} {w : World} {N n : Nat} {good : Nat → List UInt8} {pend : Nat → List (List UInt8)} (h : BkM y g b vg pv pb w N n good pend) : BkM y g b vg pv pb w.drew N n good pend := ⟨h.n1, h.nn, h.lg, h.mp, h.pd, h.yg, h.yb, h.gb, h.py, h.pp⟩
theorem BkM.lt {y g b : Nat} {vg : Value} {pv : Nat → Value} {pb : Nat → Nat} {w : World} {N n : Nat} {good : Nat → List UInt8} {pend : Nat → List (List UInt8)} (h : BkM y g b vg pv pb w N n good pend) (hy : y < w.heap.size) : ∀ x, ownB y g b n pb pend x → x < w.heap.size := by
  rintro x (rfl | rfl | rfl | ⟨k, hk, hp, rfl⟩)
  · exact hy
  · exact h.lg.lt
  · exact h.mp.lt
  · rcases h.pd k hk with ⟨q, _⟩ | ⟨_, q⟩
    · exact absurd q hp
    · exact q.lt
theorem lrel_op {S : DS} {rc : Bool} {rl : Int} (h : lrel S rc rl) : opOk S = !(rc && decide (rl = 0)) ∧ (opD S).off = (if (rc && decide (rl = 0)) = true then true else S.off) ∧ lrel (opD S) rc (if (rc && decide (rl = 0)) = true then rl else if rc = true then rl - 1 else rl) := by
  obtain ⟨n, good, pend, ops, cut, left, off⟩ := S
  obtain ⟨h1, h2⟩ := h
  simp only at h1 h2
  unfold opOk opD lrel
  cases off with
  | true =>
    obtain ⟨rfl, rfl⟩ := h1 rfl
    simp
  | false =>
    obtain ⟨rfl, h3⟩ := h2 rfl
    cases rc with
    | false => simp
    | true =>
      have h4 := h3 rfl
      by_cases hl : left < 1
      · have h0 : rl = 0 := by rw [h4]; split <;> omega
        subst h0
        simp [hl]
      · have h0 : rl = left := by rw [h4]; split <;> omega
        subst h0
        have h5 : ¬ rl = 0 := by omega
        have h6 : ¬ rl - 1 < 0 := by omega
        simp [hl, h5, h6]
set_option maxHeartbeats 4000000 in
set_option maxRecDepth 20000 in
theorem len_any (y g b n c : Nat) (ops : Int) (rc : Bool) (rl : Int) (off : Bool) (w : World) (r_y : w.rowIs y 67 6 (devF (.slice (some ⟨g, 0, none⟩) n c) (.map (some b)) ops rc rl off)) : Calls Try.prog 22 #[.pointer (some ⟨y, 0, none⟩)] w fun e w' => e = .returned (.int .i64 (n : Int)) ∧ w' = w := by
  go_enter Try.func22, Try.ntmps22
  go_wp2_with (first
    | (refine wpList_loadG 60 (.tmp 7) rfl rfl (.slice (some ⟨g, 0, none⟩) n c) r_y rfl (by omega) rfl (by kernel_rfl) ?_))
  go_ret
  exact ⟨rfl, rfl⟩
theorem lenN_any (w : World) : Calls Try.prog 22 #[.pointer none] w fun e w' => e = .returned (.int .i64 0) ∧ w' = w := by
  go_enter Try.func22, Try.ntmps22
  go_wp2
  go_ret
  exact ⟨rfl, rfl⟩
set_option maxHeartbeats 4000000 in
set_option maxRecDepth 20000 in
theorem ops_any (y g b n c : Nat) (ops : Int) (rc : Bool) (rl : Int) (off : Bool) (w : World) (r_y : w.rowIs y 67 6 (devF (.slice (some ⟨g, 0, none⟩) n c) (.map (some b)) ops rc rl off)) : Calls Try.prog 26 #[.pointer (some ⟨y, 0, none⟩)] w fun e w' => e = .returned (.int .i64 ops) ∧ w' = w := by
  go_enter Try.func26, Try.ntmps26
  go_wp2_with (first
    | (refine wpList_loadG 3 (.tmp 7) rfl rfl (.int .i64 ops) r_y rfl (by omega) rfl (by kernel_rfl) ?_))
  go_ret
  exact ⟨rfl, rfl⟩
set_option maxHeartbeats 4000000 in
set_option maxRecDepth 20000 in
theorem off_any (y g b n c : Nat) (ops : Int) (rc : Bool) (rl : Int) (off : Bool) (w : World) (r_y : w.rowIs y 67 6 (devF (.slice (some ⟨g, 0, none⟩) n c) (.map (some b)) ops rc rl off)) (h1 : 1 ≤ n) : Calls Try.prog 21 #[.pointer (some ⟨y, 0, none⟩)] w fun e w' => e = .returned (.bool off) ∧ w' = w := by
  have e1 : ((n : Int) == 0) = false := by simp; omega
  have HL := Lib.hid h1
  clear h1
  go_enter Try.func21, Try.ntmps21
  go_wp2_with (first
    | (go_at_call 22
       refine (len_any y g b n c ops rc rl off _ r_y).mono ?_
       rintro e w1 ⟨rfl, rfl⟩)
    | (refine wpList_loadG 4 (.tmp 9) rfl rfl (.bool off) r_y rfl (by omega) rfl (by kernel_rfl) ?_))
  go_ret
  exact ⟨rfl, rfl⟩
theorem offN_any (w : World) : Calls Try.prog 21 #[.pointer none] w fun e w' => e = .returned (.bool true) ∧ w' = w := by
  go_enter Try.func21, Try.ntmps21
  go_wp2_with (first
    | (go_at_call 22
       refine (lenN_any _).mono ?_
       rintro e w1 ⟨rfl, rfl⟩))
  go_ret
  exact ⟨rfl, rfl⟩
set_option maxHeartbeats 4000000 in
set_option maxRecDepth 20000 in
theorem has_any (y g b n c : Nat) (ops : Int) (rc : Bool) (rl : Int) (off : Bool) (w : World) (r_y : w.rowIs y 67 6 (devF (.slice (some ⟨g, 0, none⟩) n c) (.map (some b)) ops rc rl off)) (k : Int) : Calls Try.prog 38 #[.pointer (some ⟨y, 0, none⟩), .int .i64 k] w fun e w' => e = .returned (.bool (decide (0 ≤ k) && decide (k < (n : Int)))) ∧ w' = w := by
  by_cases h0 : 0 ≤ k
  · have e1 : (0 ≤ k) = True := eq_true h0
    clear h0
    go_enter Try.func38, Try.ntmps38
    go_wp2_with (first
      | (go_at_call 22
         refine (len_any y g b n c ops rc rl off _ r_y).mono ?_
         rintro e w1 ⟨rfl, rfl⟩))
    go_ret
    exact ⟨by simp [e1], rfl⟩
  · have e1 : (0 ≤ k) = False := eq_false h0
    clear h0
    go_enter Try.func38, Try.ntmps38
    go_wp2
    go_ret
    exact ⟨by simp [e1], rfl⟩
theorem hasN_any (k : Int) (w : World) : Calls Try.prog 38 #[.pointer none, .int .i64 k] w fun e w' => e = .returned (.bool false) ∧ w' = w := by
  by_cases h0 : 0 ≤ k
  · have e1 : (0 ≤ k) = True := eq_true h0
    have e2 : (k < 0) = False := eq_false (by omega)
    clear h0
    go_enter Try.func38, Try.ntmps38
    go_wp2_with (first
      | (go_at_call 22
         refine (lenN_any _).mono ?_
         rintro e w1 ⟨rfl, rfl⟩))
    go_ret
    exact ⟨rfl, rfl⟩
  · have e1 : (0 ≤ k) = False := eq_false h0
    clear h0
    go_enter Try.func38, Try.ntmps38
    go_wp2
    go_ret
    exact ⟨rfl, rfl⟩
set_option maxHeartbeats 4000000 in
set_option maxRecDepth 20000 in
theorem begin_any (y g b n c : Nat) (ops : Int) (rc : Bool) (rl : Int) (off : Bool) (w : World) (r_y : w.rowIs y 67 6 (devF (.slice (some ⟨g, 0, none⟩) n c) (.map (some b)) ops rc rl off)) (h1 : 1 ≤ n) (ho : 0 ≤ ops ∧ ops < 1000000000) (hl : rc = true → 0 ≤ rl ∧ rl ≤ 9223372036854775807) : Calls Try.prog 40 #[.pointer (some ⟨y, 0, none⟩)] w fun e w' => e = .returned (.int .i64 (if (rc && decide (rl = 0)) = true then 10 else 0)) ∧ w'.rowIs y 67 6 (devF (.slice (some ⟨g, 0, none⟩) n c) (.map (some b)) (ops + 1) rc (if (rc && decide (rl = 0)) = true then rl else if rc = true then rl - 1 else rl) (if (rc && decide (rl = 0)) = true then true else off)) ∧ Sam (· = y) w w' := by
  have e1 : ((n : Int) == 0) = false := by simp; omega
  obtain ⟨o1, ho1⟩ : ∃ o1, o1 = ops + 1 := ⟨_, rfl⟩
  have hw1 : IntKind.i64.wrap (ops + 1) = o1 := by rw [IntWalk.i64_in _ (by omega), ho1]
  have H1 := Lib.hid ho
  rw [← ho1]
  clear ho ho1 h1
  cases rc with
  | false =>
    simp only [Bool.false_and, Bool.false_eq_true, if_false]
    have HST1 := Lib.hid True.intro
    clear hl
    go_enter Try.func40, Try.ntmps40
    go_wp2_with (first
      | (go_at_call 22
         refine (len_any y g b n c ops false rl off _ r_y).mono ?_
         rintro e w1 ⟨rfl, rfl⟩)
      | (refine wpList_loadG 3 (.tmp 8) rfl rfl (.int .i64 ops) r_y rfl (by omega) rfl (by kernel_rfl) ?_)
      | (have hgo := HST1; clear hgo
         refine wpList_storeG 3 (.tmp 12) (.tmp 10) rfl rfl (devF (.slice (some ⟨g, 0, none⟩) n c) (.map (some b)) o1 false rl off) r_y rfl rfl (by kernel_rfl) rfl rfl (by omega) (six rfl rfl rfl rfl rfl rfl) ?_
         intro w2 q_n s_1
         replace r_y := q_n
         clear HST1)
      | (refine wpList_loadG 4 (.tmp 15) rfl rfl (.bool false) r_y rfl (by omega) rfl (by kernel_rfl) ?_)
      | (refine wpList_loadG 4 (.tmp 29) rfl rfl (.bool false) r_y rfl (by omega) rfl (by kernel_rfl) ?_))
    go_ret
    exact ⟨rfl, r_y, s_1⟩
  | true =>
    by_cases h0 : rl = 0
    · subst h0
      simp only [Bool.true_and, decide_true, if_true]
      have HST1 := Lib.hid True.intro
      have HST2 := Lib.hid True.intro
      clear hl
      go_enter Try.func40, Try.ntmps40
      go_wp2_with (first
        | (go_at_call 22
           refine (len_any y g b n c ops true 0 off _ r_y).mono ?_
           rintro e w1 ⟨rfl, rfl⟩)
        | (refine wpList_loadG 3 (.tmp 8) rfl rfl (.int .i64 ops) r_y rfl (by omega) rfl (by kernel_rfl) ?_)
        | (have hgo := HST1; clear hgo
           refine wpList_storeG 3 (.tmp 12) (.tmp 10) rfl rfl (devF (.slice (some ⟨g, 0, none⟩) n c) (.map (some b)) o1 true 0 off) r_y rfl rfl (by kernel_rfl) rfl rfl (by omega) (six rfl rfl rfl rfl rfl rfl) ?_
           intro w2 q_n s_1
           replace r_y := q_n
           clear HST1)
        | (refine wpList_loadG 4 (.tmp 15) rfl rfl (.bool true) r_y rfl (by omega) rfl (by kernel_rfl) ?_)
        | (refine wpList_loadG 3 (.tmp 20) rfl rfl (.int .i64 0) r_y rfl (by omega) rfl (by kernel_rfl) ?_)
        | (have hgo := HST2; clear hgo
           refine wpList_storeG 4 (.tmp 26) (.const (.bool true)) rfl rfl (devF (.slice (some ⟨g, 0, none⟩) n c) (.map (some b)) o1 true 0 true) r_y rfl rfl (by kernel_rfl) rfl rfl (by omega) (six rfl rfl rfl rfl rfl rfl) ?_
           intro w3 q_n s_2
           replace r_y := q_n
           clear HST2))
      go_ret
      exact ⟨rfl, r_y, s_1.trans s_2⟩
    · have e2 : (rl == 0) = false := by simp [h0]
      have hd : decide (rl = 0) = false := by simp [h0]
      simp only [Bool.true_and, hd, Bool.false_eq_true, if_false, if_true]
      obtain ⟨r1, hr1⟩ : ∃ r1, r1 = rl - 1 := ⟨_, rfl⟩
      have hb := hl rfl
      have hw2 : IntKind.i64.wrap (rl - 1) = r1 := by rw [IntWalk.i64_in _ (by omega), hr1]
      have HST1 := Lib.hid True.intro
      have HST2 := Lib.hid True.intro
      rw [← hr1]
      clear hl hb hr1 hd h0
      go_enter Try.func40, Try.ntmps40
      go_wp2_with (first
        | (go_at_call 22
           refine (len_any y g b n c ops true rl off _ r_y).mono ?_
           rintro e w1 ⟨rfl, rfl⟩)
        | (refine wpList_loadG 3 (.tmp 8) rfl rfl (.int .i64 ops) r_y rfl (by omega) rfl (by kernel_rfl) ?_)
        | (have hgo := HST1; clear hgo
           refine wpList_storeG 3 (.tmp 12) (.tmp 10) rfl rfl (devF (.slice (some ⟨g, 0, none⟩) n c) (.map (some b)) o1 true rl off) r_y rfl rfl (by kernel_rfl) rfl rfl (by omega) (six rfl rfl rfl rfl rfl rfl) ?_
           intro w2 q_n s_1
           replace r_y := q_n
           clear HST1)
        | (refine wpList_loadG 4 (.tmp 15) rfl rfl (.bool true) r_y rfl (by omega) rfl (by kernel_rfl) ?_)
        | (refine wpList_loadG 3 (.tmp 20) rfl rfl (.int .i64 rl) r_y rfl (by omega) rfl (by kernel_rfl) ?_)
        | (refine wpList_loadG 4 (.tmp 29) rfl rfl (.bool true) r_y rfl (by omega) rfl (by kernel_rfl) ?_)
        | (refine wpList_loadG 3 (.tmp 33) rfl rfl (.int .i64 rl) r_y rfl (by omega) rfl (by kernel_rfl) ?_)
        | (have hgo := HST2; clear hgo
           refine wpList_storeG 3 (.tmp 37) (.tmp 35) rfl rfl (devF (.slice (some ⟨g, 0, none⟩) n c) (.map (some b)) o1 true r1 off) r_y rfl rfl (by kernel_rfl) rfl rfl (by omega) (six rfl rfl rfl rfl rfl rfl) ?_
           intro w3 q_n s_2
           replace r_y := q_n
           clear HST2))
      go_ret
      exact ⟨rfl, r_y, s_1.trans s_2⟩
set_option maxHeartbeats 4000000 in
set_option maxRecDepth 20000 in
theorem cut_off (y g b n c : Nat) (ops : Int) (rc : Bool) (rl : Int) (off : Bool) (w : World) (r_y : w.rowIs y 67 6 (devF (.slice (some ⟨g, 0, none⟩) n c) (.map (some b)) ops rc rl off)) (h1 : 1 ≤ n) (ho : off = true) (x : Int) : Calls Try.prog 23 #[.pointer (some ⟨y, 0, none⟩), .int .i64 x] w fun e w' => e = .returned (.tuple #[]) ∧ w' = w := by
  subst ho
  go_enter Try.func23, Try.ntmps23
  go_wp2_with (first
    | (go_at_call 21
       refine (off_any y g b n c ops rc rl true _ r_y h1).mono ?_
       rintro e w1 ⟨rfl, rfl⟩))
  go_end0
  exact ⟨rfl, rfl⟩
set_option maxHeartbeats 4000000 in
set_option maxRecDepth 20000 in
theorem cut_on (y g b n c : Nat) (ops : Int) (rc : Bool) (rl : Int) (off : Bool) (w : World) (r_y : w.rowIs y 67 6 (devF (.slice (some ⟨g, 0, none⟩) n c) (.map (some b)) ops rc rl off)) (h1 : 1 ≤ n) (ho : off = false) (x : Int) : Calls Try.prog 23 #[.pointer (some ⟨y, 0, none⟩), .int .i64 x] w fun e w' => e = .returned (.tuple #[]) ∧ w'.rowIs y 67 6 (devF (.slice (some ⟨g, 0, none⟩) n c) (.map (some b)) ops true (if x < 0 then 0 else x) false) ∧ Sam (· = y) w w' := by
  subst ho
  have HST1 := Lib.hid True.intro
  have HST2 := Lib.hid True.intro
  obtain ⟨mx, hmx⟩ : ∃ mx, mx = if x < 0 then 0 else x := ⟨_, rfl⟩
  rw [← hmx]
  have HMX := Lib.hid hmx
  have HN := Lib.hid h1
  clear hmx h1
  go_enter Try.func23, Try.ntmps23
  go_wp2_with (first
    | (go_at_call 21
       refine (off_any y g b n c ops rc rl false _ r_y HN.out).mono ?_
       rintro e w1 ⟨rfl, rfl⟩)
    | (refine wmax rfl (.tmp 9) (.const (.int .i64 0)) rfl rfl rfl HMX.out ?_)
    | (have hgo := HST1; clear hgo
       refine wpList_storeG 4 (.tmp 12) (.const (.bool true)) rfl rfl (devF (.slice (some ⟨g, 0, none⟩) n c) (.map (some b)) ops true rl false) r_y rfl rfl (by kernel_rfl) rfl rfl (by omega) (six rfl rfl rfl rfl rfl rfl) ?_
       intro w2 q_n s_1
       replace r_y := q_n
       clear HST1)
    | (have hgo := HST2; clear hgo
       refine wpList_storeG 3 (.tmp 14) (.tmp 10) rfl rfl (devF (.slice (some ⟨g, 0, none⟩) n c) (.map (some b)) ops true mx false) r_y rfl rfl (by kernel_rfl) rfl rfl (by omega) (six rfl rfl rfl rfl rfl rfl) ?_
       intro w3 q_n s_2
       replace r_y := q_n
       clear HST2))
  go_end0
  exact ⟨rfl, r_y, s_1.trans s_2⟩
theorem builtBk (a : Option Addr) (n c m : Nat) : Try.prog.built 67 [(0, .slice a n c), (1, .map (some m))] = some (arrOf 6 (devF (.slice a n c) (.map (some m)) 0 false 0 false)) := by kernel_rfl
theorem wmakeM {ops : Array Oper} {rest : List Oper} {o : Oper} {a : Act} {w : World} {Q : Exit → Act → World → Prop} (hgd : o.guard = none) (x : Option Operand) (hop : o.op = .makeMap 65 x) (hx : ∀ y, x = some y → ∃ i, a.eval y = .int .i64 i) (n : Nat)
    (h : ∀ b w', w.heap.size ≤ b → MpAt w' b 0 n (fun _ => nilV) → Below w.heap.size w w' → wpList Try.prog ops Q rest (a.put o.dst (.map (some b))) w') : wpList Try.prog ops Q (o :: rest) a w := by
  refine wpList_value hgd (.map (some w.heap.size)) (w' := w.alloc (.map #[] 0)) ?_ (h _ _ (Nat.le_refl _) (mp_made w n) ((Below.refl _ _).alloc (Nat.le_refl _) _))
  cases x with
  | none => simp [execOp, hop, run_makeMap, Result.andThen]
  | some y =>
    obtain ⟨i, hi⟩ := hx y rfl
    simp [execOp, hop, Instr.makeMap, hi, run_underlying Try.underlying65 w, asInt, asIntOf, newObj, Result.andThen]
    rfl
theorem wmakeI {ops : Array Oper} {rest : List Oper} {o : Oper} {a : Act} {w : World} {Q : Exit → Act → World → Prop} (hgd : o.guard = none) (x : Operand) (hop : o.op = .makeSlice 60 x x) (n : Nat) (hx : a.eval x = .int .i64 (n : Int)) (h1 : 1 ≤ n) (hn : n ≤ 65536)
    (h : ∀ g w', w.heap.size ≤ g → Ims w' (.slice (some ⟨g, 0, none⟩) n n) g n (fun _ => List.replicate 64 0) → Below w.heap.size w w' → wpList Try.prog ops Q rest (a.put o.dst (.slice (some ⟨g, 0, none⟩) n n)) w') : wpList Try.prog ops Q (o :: rest) a w := by
  obtain ⟨i0, hi, hz0, hz1, hz2⟩ := info_parts infoImg
  obtain ⟨w', hr, q1, q2⟩ := run_make_full (P := Try.prog) w w.heap.size 60 64 i0 _ 64 Try.underlying60 hi hz0 hz1 .i64 .i64 n (by rw [hz2]; omega) (by unfold maxLen; omega) (Nat.le_refl _)
  obtain ⟨g', q3, q4, _⟩ := ims_of_owns (L := fun _ => List.replicate 64 0) q1 (by omega) (fun j hj => by
    have e : (imC (fun _ => List.replicate 64 0) j) = .int .u8 0 := by unfold imC; rw [imF_zero]
    have hlt : j % 64 < 64 := by omega
    rw [e]
    simp [madeCells, Value.cells, arrOf_size, hj, arrOf, hlt])
  obtain rfl : w.heap.size = g' := Option.some.inj q4
  refine wpList_value hgd _ (w' := w') ?_ (h _ _ (Nat.le_refl _) q3 ⟨q2.os, q2.tape, q2.output, q2.size, fun k hk => q2.block k hk (by simp)⟩)
  simp [execOp, hop, hx, hr, Result.andThen]
theorem fresh_any (g n c : Nat) (w : World) (m : Nat) : Calls Try.prog 27 #[.slice (some ⟨g, 0, none⟩) n c] w fun e w' => ∃ y b, e = .returned (.pointer (some ⟨y, 0, none⟩)) ∧ w.heap.size ≤ y ∧ w.heap.size ≤ b ∧ y ≠ b ∧ w'.rowIs y 67 6 (devF (.slice (some ⟨g, 0, none⟩) n c) (.map (some b)) 0 false 0 false) ∧ MpAt w' b 0 m (fun _ => nilV) ∧ Below w.heap.size w w' := by
  have Bw0 := Below.refl w.heap.size w
  have HGS : Hid (∀ wq : World, Below w.heap.size w wq → w.heap.size ≤ wq.heap.size) := Lib.hid fun wq h => h.size
  go_enter Try.func27, Try.ntmps27
  go_wp2_with (first
    | (have hgo := Bw0; clear hgo
       refine wmakeM rfl none rfl (fun _ h => by cases h) m ?_
       intro b w1 lb m_b kk
       have L_b := Lib.hid lb
       have Bw1 := zbt HGS Bw0 kk
       clear Bw0 kk lb)
    | (refine wpList_build_arr rfl 67 #[(0, .tmp 3), (1, .tmp 4)] rfl (arrOf 6 (devF (.slice (some ⟨g, 0, none⟩) n c) (.map (some b)) 0 false 0 false)) ?_ ?_
       · simp only [List.map_toArray, List.map_cons, List.map_nil]; exact builtBk _ _ _ _)
    | (have hgo := Bw1; clear hgo
       refine wpList_box_row rfl 67 (.tmp 5) rfl 6 (devF (.slice (some ⟨g, 0, none⟩) n c) (.map (some b)) 0 false 0 false) rfl ?_
       intro y w2 ly r_y kk
       have N_y := Lib.hid (Nat.ne_of_gt (Nat.lt_of_lt_of_le m_b.lt ly))
       have L_y := Lib.hid (zrl HGS Bw1 ly)
       have HM := Lib.hid (m_b.bel kk)
       have Bw2 := zbt HGS Bw1 kk
       clear Bw1 kk ly m_b))
  go_ret
  exact ⟨y, b, rfl, L_y.out, L_b.out, N_y.out, r_y, HM.out, Bw2⟩
end Go.Proofs.Ytpilfjdhpahphaa

/- The program's device: behind, Read, Write. -/
namespace Go.Proofs.Ytpilfjdhpahphaa
open Go.RowKit Go.Deep
open Go.Maps (Keyed has IsMap)
set_option linter.unusedSimpArgs false
set_option linter.unusedVariables false

theorem BkM.look {y g b n N : Nat} {vg : Value} {pv : Nat → Value} {pb : Nat → Nat} {w : World} {good : Nat → List UInt8} {pend : Nat → List (List UInt8)} (h : BkM y g b vg pv pb w N n good pend) (k : Nat) (hk : k < n) : ∃ a c, pv k = .slice a (pend k).length c := by
  rcases h.pd k hk with ⟨q1, q2⟩ | ⟨q1, q2⟩
  · exact ⟨none, 0, by rw [q1, q2]; rfl⟩
  · obtain ⟨c, e, _⟩ := q2.shape
    exact ⟨_, c, e⟩
theorem exec_loadG {w wx : World} {F : Nat → Prop} (ρ : Operand → Value) (ty : TypeId) (x : Operand) (t : TypeId) {b m i : Nat} {t' : TypeId} {f : Nat → Value} (v : Value) (hr : w.rowIs b t' m f) (hs : Sam F w wx) (hF : ¬ F b) (hx : ρ x = .pointer (some ⟨b, i, none⟩)) (hi : i < m) (hv : f i = v)
    (hu : (Try.prog.underlying ty).map (fun d => match d with | .struct _ | .array _ _ => true | _ => false) = some false) : (execOp ρ (mkOp (.load ty x) t)).run Try.prog wx = .ok (.value v) wx := by
  have hc := (Sam.row hr hs hF).cell hi
  rw [hv] at hc
  exact exec_load_cell ρ ty x t hx hu hc
theorem exec_sliceI {w : World} (ρ : Operand → Value) (x : Operand) (t : TypeId) {b : Nat} (hx : ρ x = .pointer (some ⟨b, 0, none⟩)) : (execOp ρ (mkOp (.slice 64 x none none none) t)).run Try.prog w = .ok (.value (.slice (some ⟨b, 0, none⟩) 64 64)) w := by
  have h := run_sliceAll_arr (P := Try.prog) w 64 5 64 b 0 Try.underlying64 (by kernel_rfl) (by decide)
  simp [execOp, mkOp, hx, h, Result.andThen]
theorem bs_img {w : World} {x n : Nat} {l : List UInt8} (hr : w.rowIs x 64 64 (imF l)) (hl : l.length = 64) (hn : n ≤ 64) : Bs w (.slice (some ⟨x, 0, none⟩) n 64) (l.take n) := by
  have e : (l.take n).length = n := by rw [List.length_take, hl]; omega
  refine ⟨some ⟨x, 0, none⟩, 64, by rw [e], by rw [e]; exact hn, by unfold maxLen; omega, (fun h => by cases h), fun q hq i hi => ?_⟩
  cases hq
  rw [e] at hi
  refine ⟨hr.lt, ?_⟩
  rw [Addr.add_lit, Nat.zero_add, hr.cell (by omega)]
  unfold imF
  rw [List.getElem_take, List.getD_eq_getElem?_getD, List.getElem?_eq_getElem (by omega)]
  rfl
set_option maxHeartbeats 4000000 in
set_option maxRecDepth 20000 in
theorem behind_any (y g b n c : Nat) (ops : Int) (rc : Bool) (rl : Int) (off : Bool) (w : World) (r_y : w.rowIs y 67 6 (devF (.slice (some ⟨g, 0, none⟩) n c) (.map (some b)) ops rc rl off)) {N : Nat} {pv : Nat → Value} {pb : Nat → Nat} {good : Nat → List UInt8} {pend : Nat → List (List UInt8)} (hm : BkM y g b (.slice (some ⟨g, 0, none⟩) n c) pv pb w N n good pend) (k j : Nat) (hk : k < n) (hj : j ≤ (pend k).length) (hp : (pend k).length < 1000000000) : Calls Try.prog 39 #[.pointer (some ⟨y, 0, none⟩), .int .i64 (k : Int), .int .i64 (j : Int)] w fun e w' => e = .returned (imV (if j = 0 then good k else (pend k).getD (j - 1) [])) ∧ Below w.heap.size w w' := by
  have Bw0 := Below.refl w.heap.size w
  have HGS : Hid (∀ wq : World, Below w.heap.size w wq → w.heap.size ≤ wq.heap.size) := Lib.hid fun wq h => h.size
  have HK := Lib.hid hk
  have HM := Lib.hid hm
  clear hk hm
  by_cases hj0 : j = 0
  · subst hj0
    rw [if_pos rfl]
    clear hj hp
    go_enter Try.func39, Try.ntmps39
    go_wp2_with (first
      | (have hgo := Bw0; clear hgo
         refine wpList_alloc_row rfl 64 rfl 64 (fun _ => .int .u8 0) zeroImg ?_
         intro x w1 lx r_x kk
         replace r_y := zrb r_y kk
         have HM1 := Lib.hid (HM.out.bel kk)
         have L_x := Lib.hid (zrl HGS Bw0 lx)
         have Bw1 := zbt HGS Bw0 kk
         clear Bw0 kk lx HM)
      | (refine wpList_loadG 60 (.tmp 11) rfl rfl (.slice (some ⟨g, 0, none⟩) n c) r_y rfl (by omega) rfl (by kernel_rfl) ?_)
      | (refine wval rfl (.indexAddr 60 (.tmp 12) (.tmp 13)) rfl _ (exec_ixI _ _ _ _ rfl rfl HK.out) ?_)
      | (refine wval rfl (.load 64 (.tmp 14)) rfl _ (exec_loadI _ _ _ rfl (HM1.out.lg.cell k HK.out)) ?_)
      | (have hgo := Bw1; clear hgo
         refine wpList_store_as rfl 64 (.tmp 6) (.tmp 15) rfl 64 (imF (good k)) isImg r_x rfl rfl (by omega) (fun _ _ => rfl) (fun i hi => putN_whole hi) ?_
         intro w2 q gk
         replace r_x := q
         have Bw2 := zbg HGS Bw1 gk L_x.out
         clear Bw1 gk q r_y))
    exact ret_cell_as _ rfl isImg r_x rfl (by omega) (fun _ _ => rfl) rfl ⟨rfl, Bw2⟩
  · rw [if_neg hj0]
    obtain ⟨j1, hj1⟩ : ∃ j1, j1 = j - 1 := ⟨_, rfl⟩
    rw [← hj1]
    have e1 : ((j : Int) == 0) = false := by simp; omega
    have hw1 : IntKind.i64.wrap ((j : Int) - 1) = (j1 : Int) := by rw [IntWalk.i64_in _ (by omega)]; omega
    have HJ : Hid (j1 < (pend k).length) := Lib.hid (by omega)
    have HQ : Hid (Ims w (pv k) (pb k) (pend k).length fun i => (pend k).getD i []) := Lib.hid ((HM.out.pd k HK.out).elim (fun h => by have := h.1; rw [this] at hj; exact absurd (Nat.le_zero.1 hj) hj0) fun h => h.2)
    obtain ⟨ck, hck, _, _⟩ := HQ.out.shape
    have HC := Lib.hid hck
    clear hj0 hj1 hj hp hck
    go_enter Try.func39, Try.ntmps39
    go_wp2_with (first
      | (have hgo := Bw0; clear hgo
         refine wpList_alloc_row rfl 64 rfl 64 (fun _ => .int .u8 0) zeroImg ?_
         intro x w1 lx r_x kk
         replace r_y := zrb r_y kk
         have HM1 := Lib.hid (HM.out.bel kk)
         have HQ1 := Lib.hid (HQ.out.bel kk)
         have L_x := Lib.hid (zrl HGS Bw0 lx)
         have Bw1 := zbt HGS Bw0 kk
         skip
         clear Bw0 kk lx HM)
      | (refine wpList_loadG 65 (.tmp 18) rfl rfl (.map (some b)) r_y rfl (by omega) rfl (by kernel_rfl) ?_)
      | (refine wval rfl (.lookup 65 (.tmp 19) (.tmp 20) false) rfl _ (exec_lookM _ _ _ _ HM1.out.mp rfl rfl HK.out (by have := HM1.out.nn; omega)) ?_)
      | (refine wval rfl (.indexAddr 60 (.tmp 21) (.tmp 23)) rfl _ (exec_ixI _ _ _ _ HC.out rfl HJ.out) ?_)
      | (refine wval rfl (.load 64 (.tmp 24)) rfl _ (exec_loadI _ _ _ rfl (HQ1.out.cell j1 HJ.out)) ?_)
      | (have hgo := Bw1; clear hgo
         refine wpList_store_as rfl 64 (.tmp 6) (.tmp 25) rfl 64 (imF ((pend k).getD j1 [])) isImg r_x rfl rfl (by omega) (fun _ _ => rfl) (fun i hi => putN_whole hi) ?_
         intro w2 q gk
         replace r_x := q
         have Bw2 := zbg HGS Bw1 gk L_x.out
         clear Bw1 gk q r_y))
    exact ret_cell_as _ rfl isImg r_x rfl (by omega) (fun _ _ => rfl) rfl ⟨rfl, Bw2⟩
set_option maxHeartbeats 4000000 in
set_option maxRecDepth 20000 in
theorem read_raw (y g b n c : Nat) (ops : Int) (rc : Bool) (rl : Int) (off : Bool) (w : World) (r_y : w.rowIs y 67 6 (devF (.slice (some ⟨g, 0, none⟩) n c) (.map (some b)) ops rc rl off)) {N : Nat} {pv : Nat → Value} {pb : Nat → Nat} {good : Nat → List UInt8} {pend : Nat → List (List UInt8)} (hm : BkM y g b (.slice (some ⟨g, 0, none⟩) n c) pv pb w N n good pend) (k : Nat) (hk : k < n) (hp : (pend k).length < 1000000000) (hl : (if (pend k).length = 0 then good k else (pend k).getD ((pend k).length - 1) []).length = 64) : Calls Try.prog 16 #[.pointer (some ⟨y, 0, none⟩), .int .i64 (k : Int)] w fun e w' => ∃ v, e = .returned (.tuple #[v, .int .i64 0]) ∧ Bs w' v (if (pend k).length = 0 then good k else (pend k).getD ((pend k).length - 1) []) ∧ Below w.heap.size w w' := by
  have Bw0 := Below.refl w.heap.size w
  have HGS : Hid (∀ wq : World, Below w.heap.size w wq → w.heap.size ≤ wq.heap.size) := Lib.hid fun wq h => h.size
  have HK := Lib.hid hk
  have HM := Lib.hid hm
  have HP := Lib.hid hp
  obtain ⟨l, hll⟩ : ∃ l, l = if (pend k).length = 0 then good k else (pend k).getD ((pend k).length - 1) [] := ⟨_, rfl⟩
  rw [← hll] at hl ⊢
  have HL := Lib.hid hll
  have HLL := Lib.hid hl
  obtain ⟨ak, ck, hck⟩ := hm.look k hk
  have HC := Lib.hid hck
  have HH : Hid ((decide (0 ≤ (k : Int)) && decide ((k : Int) < (n : Int))) = true) := Lib.hid (by simp; omega)
  clear hk hm hp hll hl hck
  go_enter Try.func16, Try.ntmps16
  go_wp2_with (first
    | (have hgo := Bw0; clear hgo
       go_at_call 38
       refine (has_any y g b n c ops rc rl off _ r_y (k : Int)).mono ?_
       rintro e w1 ⟨rfl, rfl⟩
       rw [HH.out]
       have Bw1 := Bw0
       clear Bw0)
    | (refine wpList_loadG 65 (.tmp 15) rfl rfl (.map (some b)) r_y rfl (by omega) rfl (by kernel_rfl) ?_)
    | (refine wval rfl (.lookup 65 (.tmp 16) (.tmp 17) false) rfl (.slice ak (pend k).length ck) (by rw [← HC.out]; exact exec_lookM _ _ _ _ HM.out.mp rfl rfl HK.out (by have := HM.out.nn; omega)) ?_)
    | (have hgo := Bw1; clear hgo
       go_at_call 39
       refine (behind_any y g b n c ops rc rl off _ r_y HM.out k (pend k).length HK.out (Nat.le_refl _) HP.out).mono ?_
       rintro e w2 ⟨rfl, kk⟩
       rw [← HL.out]
       have Bw2 := zbt HGS Bw1 kk
       clear Bw1 kk)
    | (have hgo := Bw2; clear hgo
       refine wpList_alloc_row rfl 64 rfl 64 (fun _ => .int .u8 0) zeroImg ?_
       intro x w3 lx r_x kk
       have L_x := Lib.hid (zrl HGS Bw2 lx)
       have Bw3 := zbt HGS Bw2 kk
       clear Bw2 kk lx)
    | (have hgo := Bw3; clear hgo
       refine wpList_store_as rfl 64 (.tmp 6) (.tmp 20) rfl 64 (imF l) isImg r_x rfl rfl (by omega) (fun _ _ => rfl) (fun i hi => putN_whole hi) ?_
       intro w4 q gk
       replace r_x := q
       have Bw4 := zbg HGS Bw3 gk L_x.out
       clear Bw3 gk q r_y)
    | (refine wval rfl (.slice 64 (.tmp 6) none none none) rfl _ (exec_sliceI _ _ _ rfl) ?_))
  go_ret2
  have hb := bs_img (n := 64) r_x HLL.out (Nat.le_refl _)
  rw [List.take_of_length_le (Nat.le_of_eq HLL.out)] at hb
  exact ⟨_, rfl, hb, Bw4⟩
set_option maxHeartbeats 4000000 in
set_option maxRecDepth 20000 in
theorem read_out (y g b n c : Nat) (ops : Int) (rc : Bool) (rl : Int) (off : Bool) (w : World) (r_y : w.rowIs y 67 6 (devF (.slice (some ⟨g, 0, none⟩) n c) (.map (some b)) ops rc rl off)) (k : Int) (hk : (decide (0 ≤ k) && decide (k < (n : Int))) = false) : Calls Try.prog 16 #[.pointer (some ⟨y, 0, none⟩), .int .i64 k] w fun e w' => e = .returned (.tuple #[.slice none 0 0, .int .i64 1]) ∧ w' = w := by
  have HH := Lib.hid hk
  clear hk
  go_enter Try.func16, Try.ntmps16
  go_wp2_with (first
    | (go_at_call 38
       refine (has_any y g b n c ops rc rl off _ r_y k).mono ?_
       rintro e w1 ⟨rfl, rfl⟩
       rw [HH.out]))
  go_ret2
  exact ⟨rfl, rfl⟩
theorem readN_any (k : Int) (w : World) : Calls Try.prog 16 #[.pointer none, .int .i64 k] w fun e w' => e = .returned (.tuple #[.slice none 0 0, .int .i64 1]) ∧ w' = w := by
  go_enter Try.func16, Try.ntmps16
  go_wp2_with (first
    | (go_at_call 38
       refine (hasN_any k _).mono ?_
       rintro e w1 ⟨rfl, rfl⟩))
  go_ret2
  exact ⟨rfl, rfl⟩
end Go.Proofs.Ytpilfjdhpahphaa
