/- The document's numbers below p: Root. -/
import Derived.Test.YthapdohblphlgaaFeH
import Derived.Test.YthapdohblphlgaaEqFe
import Derived.Test.YthapdohblphlgaaLintZ
import Derived.Test.YthapdohblphlgaaCert
namespace Go.Proofs.Ythapdohblphlgaa
open Go.RowKit Go.Deep

section
variable {P : Program} {ops : Array Oper} {Q : Exit → Act → World → Prop} {E : World → World → Prop} {K : Act → World → Prop}
/-- A store, as a writer of a segment. -/
theorem stpz_store {i : Nat} {r : Stp} {a : Act} {w : World} {o : Oper} (op : Op) (t : TypeId) (w1 : World) (ho : ops[i]? = some o) (hd : o.dst = none) (hop : o.op = op) (ht : o.type = t)
    (hw : Region.wanted o (yielded ops a.tmps) = true) (hx : (execOp a.eval (mkOp op t)).run P w = .ok .skip w1) (hb : E w w1) (h : LinZ P ops Q E K r a w1) :
    wpOp P ops Q i (fun a' w' => E w w' ∧ LinZ P ops Q E K r a' w') a w := by
  refine wpOp_step ho fun K' hK => ?_
  rw [if_pos hw]
  unfold Oper.wp
  rw [exec_mkOp, hop, ht, hx]
  refine hK _ _ ⟨hb, ?_⟩
  rw [hd]
  exact h
end
theorem stpz_store_arr {P : Program} {ops : Array Oper} {Q : Exit → Act → World → Prop} {E : World → World → Prop} {K : Act → World → Prop} {i : Nat} {r : Stp} {a : Act} {w : World} {o : Oper} (ty : TypeId) (x y : Operand) (ho : ops[i]? = some o) (hd : o.dst = none) (hop : o.op = .store ty x y)
    (hw : Region.wanted o (yielded ops a.tmps) = true) {k b m off : Nat} {t' : TypeId} {f g : Nat → Value} (hr : w.rowIs b t' m f) (hx : a.eval x = .pointer (some ⟨b, off, none⟩)) (hy : a.eval y = .agg (arrOf k g)) (ht : IsArr P ty k)
    (hk : off + k ≤ m) (h1 : ∀ j, j < k → (g j).oneCell' = true)
    (h : ∀ w', w'.rowIs b t' m (putN f off k g) → w.grownBy w' (some b) → w'.heap.size = w.heap.size → E w w' ∧ LinZ P ops Q E K r a w') :
    wpOp P ops Q i (fun a' w' => E w w' ∧ LinZ P ops Q E K r a' w') a w := by
  obtain ⟨w', hx', e1, e2, e3⟩ := exec_store_arr (P := P) a.eval ty x y o.type hr hx hy ht hk h1
  obtain ⟨g1, g2⟩ := h w' e1 e2 e3
  exact stpz_store _ o.type w' ho hd hop rfl hw hx' g1 g2
theorem exec_alloc_arr {P : Program} {w : World} (ρ : Operand → Value) (ty t : TypeId) (c : Array Value) (hz : (P.info? ty).map (fun i => i.zero) = some (some (.agg c))) :
    (execOp ρ (mkOp (.alloc ty) t)).run P w = .ok (.value (.pointer (some ⟨w.heap.size, 0, none⟩))) (w.alloc (.cells c ty)) := by
  cases hq : P.info? ty with
  | none => simp [hq] at hz
  | some i =>
    have hz' : i.zero = some (.agg c) := by simpa [hq] using hz
    simp [execOp, mkOp, Instr.alloc, zeroValue, typeInfo, hq, hz', newVar, newRow, newObj, Value.cells, Result.andThen]
    rfl
theorem dig_inj {A B : Nat} (hA : A < p25) (hB : B < p25) : (∀ j, j < 16 → ((dig A j : Nat) : Int) = ((dig B j : Nat) : Int)) ↔ A = B := by
  constructor
  · intro h
    have h1 := valL_congr 16 (f := dig A) (g := dig B) (fun j hj => by have := h j hj; omega)
    rwa [valL_all _ _ (lt_B hA), valL_all _ _ (lt_B hB)] at h1
  · intro h j _; rw [h]
def t25 : Nat := (p25 - 5) / 8
theorem expB_r1 : expB (powL 15 254) (powL 15 254).length = t25 + 1 := by decide +kernel
theorem expB_r2 : expB (powL 31 251) (powL 31 251).length = 2 * t25 + 1 := by decide +kernel
theorem t25_eq : p25 = 8 * t25 + 5 := by decide +kernel
/-- 2 is no square. -/
theorem two_none : Eqm p25 (2 ^ (4 * t25 + 2)) (negP p25 1) := by
  unfold Eqm
  rw [← pw_eq p25 255 2 (4 * t25 + 2) (by decide +kernel)]
  decide +kernel
theorem prime_p25 : IsPrime p25 := by rw [p25_eq]; exact prime25519
theorem run_fe_neq (w : World) {A B : Nat} (hA : A < p25) (hB : B < p25) : (binOp .neq 31 (.agg (arrOf 16 (feF A))) (.agg (arrOf 16 (feF B)))).run Try.prog w = .ok (.bool (!decide (A = B))) w := by
  have h := run_neq_arr2 (P := Try.prog) w 31 23 16 .u64 (fun j => ((dig A j : Nat) : Int)) (fun j => ((dig B j : Nat) : Int)) Try.underlying31 Try.underlying23 (by kernel_rfl)
  by_cases hab : A = B
  · rw [decide_eq_true hab]
    rw [decide_eq_true ((dig_inj hA hB).2 hab)] at h
    exact h
  · rw [decide_eq_false hab]
    rw [decide_eq_false (fun h2 => hab ((dig_inj hA hB).1 h2))] at h
    exact h

theorem exec_fe_neq {w : World} (ρ : Operand → Value) (x y : Operand) (t : TypeId) {A B : Nat} (hA : A < p25) (hB : B < p25) (hx : ρ x = .agg (arrOf 16 (feF A))) (hy : ρ y = .agg (arrOf 16 (feF B))) :
    (execOp ρ (mkOp (.binOp .neq 31 x y 31) t)).run Try.prog w = .ok (.value (.bool (!decide (A = B)))) w := by
  have hq := run_eqGuard_agg (P := Try.prog) w .neq 31 x y (arrOf 16 (feF A)) (arrOf 16 (feF B)) (by kernel_rfl)
  have hr := run_fe_neq w hA hB
  simp [execOp, mkOp, hx, hy, hq, hr, Result.andThen]
theorem ret_cell_arr_tmp {P : Program} {a : Act} {w : World} {fn : Func} {R : Ending → World → Prop} {p q : Tmp} {ty : TypeId} {k b off m : Nat} {t : TypeId} {f : Nat → Value} {v : Value} (h : fn.results = #[.cell p ty, .tmp q]) (ht : IsArr P ty k)
    (hr : w.rowIs b t m f) (hp : a.tmps.getD p undef = .pointer (some ⟨b, off, none⟩)) (hq : a.tmps.getD q undef = v) (hk : off + k ≤ m) (hd : a.defers = []) (hR : R (.returned (.tuple #[.agg (arrOf k fun i => f (off + i)), v])) w) : bodyPost P fn R .ret a w := by
  refine bodyPost_ret (v := .tuple #[.agg (arrOf k fun i => f (off + i)), v]) ?_ hd hR
  have hp' : a.tmps[p]?.getD undef = .pointer (some ⟨b, off, none⟩) := by simpa using hp
  have hq' : a.tmps[q]?.getD undef = v := by simpa using hq
  simp [results, h, hp', hq', asAddr, run_load_arr hr hk ht]

/-- Whether there is one, as the document numbers it. -/
def rootE (o : Option Nat) : Int := if o.isSome then 0 else 7
/-- The frame behind the first power. -/
def RootF (A g0 g1 y : Nat) (u5 u6 u7 : Value) : Act :=
  { tmps := #[.agg (arrOf 16 (feF A)), .pointer (some ⟨g0, 0, none⟩), .pointer (some ⟨g1, 0, none⟩), .int .i64 0, .pointer (some ⟨y, 0, none⟩), u5, u6, u7, undef, undef, undef, undef, undef, undef, undef, undef, undef, undef, undef, undef, undef, undef, undef, undef, undef, undef, undef, undef, undef, undef, undef], defers := [] }

set_option maxHeartbeats 4000000 in
theorem refRoot_any (A : Nat) (w : World) (hA : A < p25) : Calls Try.prog 32 #[.agg (arrOf 16 (feF A))] w fun e w' =>
    e = .returned (.tuple #[.agg (arrOf 16 (feF ((rootL p25 t25 A).getD 0))), .int .i64 (rootE (rootL p25 t25 A))]) ∧ Below w.heap.size w w' := by
  obtain ⟨w3, hw3, hrA, hrR, hbel, hsz⟩ := two_rows w (feF A) 31
  go_enter Try.func32, Try.ntmps32
  go_wp2_with (refine wpList_alloc_arr rfl 31 rfl (arrOf 16 (u64f fun _ => 0)) zeroFe ?_)
  rw [← hw3]
  clear hw3
  generalize hg0 : w.heap.size = g0 at *
  generalize hg1 : g0 + 1 = g1 at *
  have l1 : g0 ≤ g1 := by omega
  have HG := Lib.hid hg0
  obtain ⟨B, hBe⟩ : ∃ B, B = w3.heap.size := ⟨_, rfl⟩
  have hgB : g0 ≤ B := by omega
  have hg1B : g1 < B := by omega
  clear hg0 hg1 hsz
  have hA0 := hrA.drew
  have hR0 := hrR.drew
  have hB0 : Below g0 w w3.drew := hbel.drew
  have hAp := hA
  clear hA hrA hrR hbel
  refine wp_region_plan (fun w1 w2 => Below B w1 w2) (fun _ => Below.refl _ _) (fun _ _ _ h1 h2 => h1.trans h2) 5 [((.rd 0 (.br 1 (.br 2 (.wr 3 (.wr 4 .done)) 3 (.wr 2 (.wr 4 .done))) 3 (.wr 1 (.wr 2 (.wr 4 .done))))), 4)] (by kernel_rfl) (by kernel_rfl) (by decide) (by kernel_rfl) (fun d _ _ _ _ h => by cases d <;> exact h) ?_
  refine linp_seg (fun a' w' => ∃ y u5 u6 u7, a' = RootF A g0 g1 y u5 u6 u7 ∧ B ≤ y ∧ w'.rowIs y 31 16 (feF (A ^ (t25 + 1) % p25)) ∧ Below B w3.drew w') ?_ ?_
  · have hS : B ≤ w3.drew.heap.size := by rw [hBe]; exact Nat.le_refl _
    have hEE : Below B w3.drew w3.drew := Below.refl _ _
    have hltA : g0 < B := by omega
    --SEG
    refine lintz_pure 5 (Op.load 31 (.tmp 1)) _ (.agg (arrOf 16 fun i => feF A (0 + i))) rfl rfl rfl rfl rfl (fun w' hb => by exact exec_load_arr _ _ _ _ rfl arrFe (hA0.of_block (hb.block _ hltA)) (by omega)) ?_
    simp only [Act.put, List.setIfInBounds_toArray, List.set_cons_zero, List.set_cons_succ, Nat.zero_add]
    refine ⟨?_, ?_⟩
    · skip
      refine stpz_fn 6 48 #[Operand.const (Value.int IntKind.u8 15), Operand.const (Value.int IntKind.u8 254)] #[5, 5] _ (refPower_eq 15 254 15 254 _ rfl rfl) rfl rfl rfl rfl Try.func48 (by kernel_rfl) (by kernel_rfl) (by go_simp) ?_
      rintro e w5 ⟨v5, rfl, hP, hb⟩
      have hE := hb.mono hS
      replace hEE := hEE.trans hE
      replace hS := Nat.le_trans hS hb.size
      refine ⟨_, rfl, hE, ?_⟩
      clear hE hb
      simp only [Act.put, List.setIfInBounds_toArray, List.set_cons_zero, List.set_cons_succ, Nat.zero_add]
      refine ⟨?_, ?_⟩
      · skip
        refine stpz_fn 7 47 #[Operand.tmp 5, Operand.tmp 6] #[31, 22] _ (refPow_any A v5 (powL 15 254) _ hAp hP (by decide)) rfl rfl rfl rfl Try.func47 (by kernel_rfl) (by kernel_rfl) (by go_simp) ?_
        rintro e w6 ⟨rfl, hb⟩
        have hE := hb.mono hS
        replace hEE := hEE.trans hE
        replace hS := Nat.le_trans hS hb.size
        refine ⟨_, rfl, hE, ?_⟩
        clear hE hb hP
        simp only [Act.put, List.setIfInBounds_toArray, List.set_cons_zero, List.set_cons_succ, Nat.zero_add]
        refine stpz_made 4 (Op.alloc 31) _ _ _ rfl rfl rfl rfl rfl (exec_alloc_arr _ _ _ (arrOf 16 (u64f fun _ => 0)) zeroFe) ((Below.refl _ _).alloc hS _) ?_
        simp only [Act.put, List.setIfInBounds_toArray, List.set_cons_zero, List.set_cons_succ, Nat.zero_add]
        have hX := rowIs_arr w6 16 (u64f fun _ => 0) 31
        have hlX : B ≤ w6.heap.size := hS
        replace hEE := hEE.alloc hS (.cells (arrOf 16 (u64f fun _ => 0)) 31)
        replace hS : B ≤ (w6.alloc (.cells (arrOf 16 (u64f fun _ => 0)) 31)).heap.size := by rw [World.size_alloc]; omega
        refine stpz_store_arr (k := 16) (off := 0) 31 (.tmp 4) (.tmp 7) rfl rfl rfl rfl hX rfl rfl arrFe (by omega) (fun _ _ => rfl) ?_
        intro w7 hr hg hs
        have hE : Below B _ w7 := (Below.refl _ _).grown hg hS (by intro k hk; cases hk; exact hlX)
        refine ⟨hE, lintz_leaf ⟨_, _, _, _, rfl, hlX, hr.congr fun i hi => ?_, hEE.trans hE⟩⟩
        unfold putN
        rw [if_pos (by omega), Nat.sub_zero, expB_r1]
      · skip
        refine stpz_made 4 (Op.alloc 31) _ _ _ rfl rfl rfl rfl rfl (exec_alloc_arr _ _ _ (arrOf 16 (u64f fun _ => 0)) zeroFe) ((Below.refl _ _).alloc hS _) ?_
        simp only [Act.put, List.setIfInBounds_toArray, List.set_cons_zero, List.set_cons_succ, Nat.zero_add]
        have hX := rowIs_arr w5 16 (u64f fun _ => 0) 31
        have hlX : B ≤ w5.heap.size := hS
        replace hEE := hEE.alloc hS (.cells (arrOf 16 (u64f fun _ => 0)) 31)
        replace hP := hP.below ((Below.refl _ _).alloc (Nat.le_refl _) (.cells (arrOf 16 (u64f fun _ => 0)) 31)) (Nat.le_refl _)
        replace hS : B ≤ (w5.alloc (.cells (arrOf 16 (u64f fun _ => 0)) 31)).heap.size := by rw [World.size_alloc]; omega
        refine stpz_fn 7 47 #[Operand.tmp 5, Operand.tmp 6] #[31, 22] _ (refPow_any A v5 (powL 15 254) _ hAp hP (by decide)) rfl rfl rfl rfl Try.func47 (by kernel_rfl) (by kernel_rfl) (by go_simp) ?_
        rintro e w8 ⟨rfl, hb⟩
        have hE := hb.mono hS
        replace hEE := hEE.trans hE
        replace hX := World.rowIs.of_block hX (hb.block _ (World.rowIs.lt hX))
        replace hS := Nat.le_trans hS hb.size
        refine ⟨_, rfl, hE, ?_⟩
        clear hE hb hP
        simp only [Act.put, List.setIfInBounds_toArray, List.set_cons_zero, List.set_cons_succ, Nat.zero_add]
        refine stpz_store_arr (k := 16) (off := 0) 31 (.tmp 4) (.tmp 7) rfl rfl rfl rfl hX rfl rfl arrFe (by omega) (fun _ _ => rfl) ?_
        intro w9 hr hg hs
        have hE : Below B _ w9 := (Below.refl _ _).grown hg hS (by intro k hk; cases hk; exact hlX)
        refine ⟨hE, lintz_leaf ⟨_, _, _, _, rfl, hlX, hr.congr fun i hi => ?_, hEE.trans hE⟩⟩
        unfold putN
        rw [if_pos (by omega), Nat.sub_zero, expB_r1]
    · skip
      refine stpz_made 4 (Op.alloc 31) _ _ _ rfl rfl rfl rfl rfl (exec_alloc_arr _ _ _ (arrOf 16 (u64f fun _ => 0)) zeroFe) ((Below.refl _ _).alloc hS _) ?_
      simp only [Act.put, List.setIfInBounds_toArray, List.set_cons_zero, List.set_cons_succ, Nat.zero_add]
      have hX := rowIs_arr w3.drew 16 (u64f fun _ => 0) 31
      have hlX : B ≤ w3.drew.heap.size := hS
      replace hEE := hEE.alloc hS (.cells (arrOf 16 (u64f fun _ => 0)) 31)
      replace hS : B ≤ (w3.drew.alloc (.cells (arrOf 16 (u64f fun _ => 0)) 31)).heap.size := by rw [World.size_alloc]; omega
      refine stpz_fn 6 48 #[Operand.const (Value.int IntKind.u8 15), Operand.const (Value.int IntKind.u8 254)] #[5, 5] _ (refPower_eq 15 254 15 254 _ rfl rfl) rfl rfl rfl rfl Try.func48 (by kernel_rfl) (by kernel_rfl) (by go_simp) ?_
      rintro e w10 ⟨v5, rfl, hP, hb⟩
      have hE := hb.mono hS
      replace hEE := hEE.trans hE
      replace hX := World.rowIs.of_block hX (hb.block _ (World.rowIs.lt hX))
      replace hS := Nat.le_trans hS hb.size
      refine ⟨_, rfl, hE, ?_⟩
      clear hE hb
      simp only [Act.put, List.setIfInBounds_toArray, List.set_cons_zero, List.set_cons_succ, Nat.zero_add]
      refine stpz_fn 7 47 #[Operand.tmp 5, Operand.tmp 6] #[31, 22] _ (refPow_any A v5 (powL 15 254) _ hAp hP (by decide)) rfl rfl rfl rfl Try.func47 (by kernel_rfl) (by kernel_rfl) (by go_simp) ?_
      rintro e w11 ⟨rfl, hb⟩
      have hE := hb.mono hS
      replace hEE := hEE.trans hE
      replace hX := World.rowIs.of_block hX (hb.block _ (World.rowIs.lt hX))
      replace hS := Nat.le_trans hS hb.size
      refine ⟨_, rfl, hE, ?_⟩
      clear hE hb hP
      simp only [Act.put, List.setIfInBounds_toArray, List.set_cons_zero, List.set_cons_succ, Nat.zero_add]
      refine stpz_store_arr (k := 16) (off := 0) 31 (.tmp 4) (.tmp 7) rfl rfl rfl rfl hX rfl rfl arrFe (by omega) (fun _ _ => rfl) ?_
      intro w12 hr hg hs
      have hE : Below B _ w12 := (Below.refl _ _).grown hg hS (by intro k hk; cases hk; exact hlX)
      refine ⟨hE, lintz_leaf ⟨_, _, _, _, rfl, hlX, hr.congr fun i hi => ?_, hEE.trans hE⟩⟩
      unfold putN
      rw [if_pos (by omega), Nat.sub_zero, expB_r1]
  · rintro a' wq ⟨y, u5, u6, u7, rfl, hy, hX, hE⟩
    have hAr := hA0.of_block (hE.block _ (show g0 < B by omega))
    have hRr := hR0.of_block (hE.block _ hg1B)
    have HGS : Hid (∀ wq : World, Below g0 w wq → g0 ≤ wq.heap.size) := Lib.hid fun wq h => by rw [← HG.out]; exact h.size
    have hBel : Below g0 w wq := hB0.trans (hE.mono hgB)
    have hyg0 : g0 ≠ y := by omega
    have hyg1 : g1 ≠ y := by omega
    have hlyg : g0 ≤ y := by omega
    obtain ⟨ρ, hρ⟩ : ∃ ρ, ρ = A ^ (t25 + 1) % p25 := ⟨_, rfl⟩
    rw [← hρ] at hX
    have hρp : ρ < p25 := by rw [hρ]; exact mod_p_lt _
    have hrC : rootC p25 t25 A = if ρ * ρ % p25 = A then ρ else ρ * (2 ^ (2 * t25 + 1) % p25) % p25 := by rw [hρ]; rfl
    have HRC := Lib.hid hrC
    clear hρ hrC hE hA0 hR0 hB0
    refine linp_end ?_
    unfold RootF
    go_wp2
    refine wp_region_lint (.rd 0 (.rd 1 (.rd 3 (.wr 2 (.rd 4 .done))))) (by kernel_rfl) (by kernel_rfl) (by decide) (by kernel_rfl) (fun d _ _ _ _ h => by cases d <;> exact h) ?_
    replace hX := World.rowIs.drew hX
    replace hAr := World.rowIs.drew hAr
    replace hRr := World.rowIs.drew hRr
    replace hBel := Below.drew hBel
    refine lint_pure 8 (Op.load 31 (.tmp 4)) _ (.agg (arrOf 16 fun i => feF ρ (0 + i))) rfl rfl rfl rfl rfl (fun w0 hb0 => by exact exec_load_arr _ _ _ _ rfl arrFe (hX.of_block (hb0.block _ hX.lt)) (by omega)) ?_
    simp only [Act.put, List.setIfInBounds_toArray, List.set_cons_zero, List.set_cons_succ, Nat.zero_add]
    refine lint_pure 9 (Op.load 31 (.tmp 4)) _ (.agg (arrOf 16 fun i => feF ρ (0 + i))) rfl rfl rfl rfl rfl (fun w0 hb0 => by exact exec_load_arr _ _ _ _ rfl arrFe (hX.of_block (hb0.block _ hX.lt)) (by omega)) ?_
    simp only [Act.put, List.setIfInBounds_toArray, List.set_cons_zero, List.set_cons_succ, Nat.zero_add]
    refine lint_pure 11 (Op.load 31 (.tmp 1)) _ (.agg (arrOf 16 fun i => feF A (0 + i))) rfl rfl rfl rfl rfl (fun w0 hb0 => by exact exec_load_arr _ _ _ _ rfl arrFe (hAr.of_block (hb0.block _ hAr.lt)) (by omega)) ?_
    simp only [Act.put, List.setIfInBounds_toArray, List.set_cons_zero, List.set_cons_succ, Nat.zero_add]
    refine stp_fn 10 25 #[Operand.tmp 8, Operand.tmp 9] #[31, 31] _ (refMul_any ρ ρ _ hρp hρp) rfl rfl rfl rfl Try.func25 (by kernel_rfl) (by kernel_rfl) (by go_simp) ?_
    rintro e wm ⟨rfl, hbm⟩
    replace hX := World.rowIs.of_block hX (hbm.block _ (World.rowIs.lt hX))
    replace hAr := World.rowIs.of_block hAr (hbm.block _ (World.rowIs.lt hAr))
    replace hRr := World.rowIs.of_block hRr (hbm.block _ (World.rowIs.lt hRr))
    replace hBel := Below.trans hBel (hbm.mono (HGS.out _ hBel))
    refine ⟨_, rfl, hbm, ?_⟩
    simp only [Act.put, List.setIfInBounds_toArray, List.set_cons_zero, List.set_cons_succ, Nat.zero_add]
    refine lint_pure 12 (Op.binOp BinOp.neq 31 (.tmp 10) (.tmp 11) 31) _ (.bool (!decide (ρ * ρ % p25 = A))) rfl rfl rfl rfl rfl (fun w0 hb0 => by exact exec_fe_neq _ _ _ _ (mod_p_lt _) hAp rfl rfl) ?_
    simp only [Act.put, List.setIfInBounds_toArray, List.set_cons_zero, List.set_cons_succ, Nat.zero_add]
    refine lint_end ?_
    by_cases c1 : ρ * ρ % p25 = A
    focus
      rw [decide_eq_true c1]
      have hrC : rootC p25 t25 A = ρ := by rw [HRC.out, if_pos c1]
      obtain ⟨σ, hσ⟩ : ∃ σ, σ = ρ := ⟨_, rfl⟩
      rw [← hσ] at hX hρp hrC
      have hσp := hρp
      have HR := Lib.hid hrC
      clear hσ hρp hrC HRC c1
      go_wp2
    rotate_left
    focus
      rw [decide_eq_false c1]
      have hrC : rootC p25 t25 A = ρ * (2 ^ (2 * t25 + 1) % p25) % p25 := by rw [HRC.out, if_neg c1]
      clear HRC c1
      go_wp2
      replace hX := World.rowIs.drew hX
      replace hAr := World.rowIs.drew hAr
      replace hRr := World.rowIs.drew hRr
      replace hBel := Below.drew hBel
      refine wp_region_lins [(0, some [4]), (1, none), (2, none), (3, none), (4, none), (5, none)] (fun c w' => c = 4 → w'.rowIs y 31 16 (feF ρ)) (by kernel_rfl) (by kernel_rfl) (by decide) (by kernel_rfl) (fun d _ _ _ _ h => by cases d <;> exact h) (fun c hc _ => hX) ?_
      refine lins_read 13 (Op.load 31 (Operand.tmp 4)) _ (.agg (arrOf 16 fun i => feF ρ (0 + i))) rfl rfl rfl rfl rfl (fun w0 hw0 => by exact exec_load_arr _ _ _ _ rfl arrFe (hw0 4 (by simp) rfl) (by omega)) ?_
      simp only [Act.put, List.setIfInBounds_toArray, List.set_cons_zero, List.set_cons_succ, Nat.zero_add]
      refine lins_fn (some 14) 19 #[Operand.const (Value.int IntKind.u64 2)] #[23] _ (refSmall_any 2 _ (by decide)) rfl rfl rfl rfl Try.func19 (by kernel_rfl) (by kernel_rfl) (by go_simp) ?_
      rintro e wk1 ⟨rfl, hk1⟩
      replace hX := World.rowIs.of_block hX (hk1.block _ (World.rowIs.lt hX))
      replace hAr := World.rowIs.of_block hAr (hk1.block _ (World.rowIs.lt hAr))
      replace hRr := World.rowIs.of_block hRr (hk1.block _ (World.rowIs.lt hRr))
      replace hBel := Below.trans hBel (hk1.mono (HGS.out _ hBel))
      refine ⟨_, rfl, fun c w' => c = 4 → w'.rowIs y 31 16 (feF ρ), fun c hc => ⟨fun _ => hX, fun w6 h6 => h6⟩, ?_⟩
      simp only [Act.put, List.setIfInBounds_toArray, List.set_cons_zero, List.set_cons_succ, Nat.zero_add]
      refine lins_fn (some 15) 48 #[Operand.const (Value.int IntKind.u8 31), Operand.const (Value.int IntKind.u8 251)] #[5, 5] _ (refPower_eq 31 251 31 251 _ rfl rfl) rfl rfl rfl rfl Try.func48 (by kernel_rfl) (by kernel_rfl) (by go_simp) ?_
      rintro e wk2 ⟨v5, rfl, hP, hk2⟩
      replace hX := World.rowIs.of_block hX (hk2.block _ (World.rowIs.lt hX))
      replace hAr := World.rowIs.of_block hAr (hk2.block _ (World.rowIs.lt hAr))
      replace hRr := World.rowIs.of_block hRr (hk2.block _ (World.rowIs.lt hRr))
      replace hBel := Below.trans hBel (hk2.mono (HGS.out _ hBel))
      refine ⟨_, rfl, fun c w' => c = 4 → w'.rowIs y 31 16 (feF ρ), fun c hc => ⟨fun _ => hX, fun w6 h6 => h6⟩, ?_⟩
      simp only [Act.put, List.setIfInBounds_toArray, List.set_cons_zero, List.set_cons_succ, Nat.zero_add]
      refine lins_fn (some 16) 47 #[Operand.tmp 14, Operand.tmp 15] #[31, 22] _ (refPow_any 2 v5 (powL 31 251) _ (by decide +kernel) hP (by decide)) rfl rfl rfl rfl Try.func47 (by kernel_rfl) (by kernel_rfl) (by go_simp) ?_
      rintro e wk3 ⟨rfl, hk3⟩
      replace hX := World.rowIs.of_block hX (hk3.block _ (World.rowIs.lt hX))
      replace hAr := World.rowIs.of_block hAr (hk3.block _ (World.rowIs.lt hAr))
      replace hRr := World.rowIs.of_block hRr (hk3.block _ (World.rowIs.lt hRr))
      replace hBel := Below.trans hBel (hk3.mono (HGS.out _ hBel))
      refine ⟨_, rfl, fun c w' => c = 4 → w'.rowIs y 31 16 (feF ρ), fun c hc => ⟨fun _ => hX, fun w6 h6 => h6⟩, ?_⟩
      simp only [Act.put, List.setIfInBounds_toArray, List.set_cons_zero, List.set_cons_succ, Nat.zero_add]
      refine lins_fn (some 17) 25 #[Operand.tmp 13, Operand.tmp 16] #[31, 31] _ (refMul_any ρ (2 ^ expB (powL 31 251) (powL 31 251).length % p25) _ hρp (mod_p_lt _)) rfl rfl rfl rfl Try.func25 (by kernel_rfl) (by kernel_rfl) (by go_simp) ?_
      rintro e wk4 ⟨rfl, hk4⟩
      replace hX := World.rowIs.of_block hX (hk4.block _ (World.rowIs.lt hX))
      replace hAr := World.rowIs.of_block hAr (hk4.block _ (World.rowIs.lt hAr))
      replace hRr := World.rowIs.of_block hRr (hk4.block _ (World.rowIs.lt hRr))
      replace hBel := Below.trans hBel (hk4.mono (HGS.out _ hBel))
      refine ⟨_, rfl, fun _ _ => True, fun c hc => ⟨trivial, fun w7 _ h => by subst h; simp [writers] at hc⟩, ?_⟩
      simp only [Act.put, List.setIfInBounds_toArray, List.set_cons_zero, List.set_cons_succ, Nat.zero_add]
      refine lins_store_arr (k := 16) (off := 0) 31 (.tmp 4) (.tmp 17) rfl rfl rfl rfl hX rfl rfl arrFe (by omega) (fun _ _ => rfl) ?_
      intro wk5 hr5 hg5 hs5
      refine ⟨fun _ _ => True, fun c hc => (by cases hc), ?_⟩
      refine lins_end ?_
      obtain ⟨σ, hσ⟩ : ∃ σ, σ = ρ * (2 ^ (2 * t25 + 1) % p25) % p25 := ⟨_, rfl⟩
      replace hX : wk5.rowIs y 31 16 (feF σ) := hr5.congr fun i hi => by unfold putN; rw [if_pos (by omega), Nat.sub_zero, expB_r2, hσ]
      replace hAr := gb_rowIs hAr hg5 hyg0
      replace hRr := gb_rowIs hRr hg5 hyg1
      replace hBel := Below.grown hBel hg5 (HGS.out _ hBel) (by intro k hk; cases hk; exact hlyg)
      rw [← hσ] at hrC
      have hσp : σ < p25 := by rw [hσ]; exact mod_p_lt _
      have HR := Lib.hid hrC
      clear hr5 hg5 hs5 hσ hrC hk1 hk2 hk3 hk4 hP hbm
      go_wp2
    rotate_left
    all_goals
      refine wp_region_lint (.rd 0 (.rd 1 (.rd 3 (.wr 2 (.rd 4 .done))))) (by kernel_rfl) (by kernel_rfl) (by decide) (by kernel_rfl) (fun d _ _ _ _ h => by cases d <;> exact h) ?_
      replace hX := World.rowIs.drew hX
      replace hAr := World.rowIs.drew hAr
      replace hRr := World.rowIs.drew hRr
      replace hBel := Below.drew hBel
      refine lint_pure 18 (Op.load 31 (.tmp 4)) _ (.agg (arrOf 16 fun i => feF σ (0 + i))) rfl rfl rfl rfl rfl (fun w0 hb0 => by exact exec_load_arr _ _ _ _ rfl arrFe (hX.of_block (hb0.block _ hX.lt)) (by omega)) ?_
      simp only [Act.put, List.setIfInBounds_toArray, List.set_cons_zero, List.set_cons_succ, Nat.zero_add]
      refine lint_pure 19 (Op.load 31 (.tmp 4)) _ (.agg (arrOf 16 fun i => feF σ (0 + i))) rfl rfl rfl rfl rfl (fun w0 hb0 => by exact exec_load_arr _ _ _ _ rfl arrFe (hX.of_block (hb0.block _ hX.lt)) (by omega)) ?_
      simp only [Act.put, List.setIfInBounds_toArray, List.set_cons_zero, List.set_cons_succ, Nat.zero_add]
      refine lint_pure 21 (Op.load 31 (.tmp 1)) _ (.agg (arrOf 16 fun i => feF A (0 + i))) rfl rfl rfl rfl rfl (fun w0 hb0 => by exact exec_load_arr _ _ _ _ rfl arrFe (hAr.of_block (hb0.block _ hAr.lt)) (by omega)) ?_
      simp only [Act.put, List.setIfInBounds_toArray, List.set_cons_zero, List.set_cons_succ, Nat.zero_add]
      refine stp_fn 20 25 #[Operand.tmp 18, Operand.tmp 19] #[31, 31] _ (refMul_any σ σ _ hσp hσp) rfl rfl rfl rfl Try.func25 (by kernel_rfl) (by kernel_rfl) (by go_simp) ?_
      rintro e wm ⟨rfl, hbm⟩
      replace hX := World.rowIs.of_block hX (hbm.block _ (World.rowIs.lt hX))
      replace hAr := World.rowIs.of_block hAr (hbm.block _ (World.rowIs.lt hAr))
      replace hRr := World.rowIs.of_block hRr (hbm.block _ (World.rowIs.lt hRr))
      replace hBel := Below.trans hBel (hbm.mono (HGS.out _ hBel))
      refine ⟨_, rfl, hbm, ?_⟩
      simp only [Act.put, List.setIfInBounds_toArray, List.set_cons_zero, List.set_cons_succ, Nat.zero_add]
      refine lint_pure 22 (Op.binOp BinOp.neq 31 (.tmp 20) (.tmp 21) 31) _ (.bool (!decide (σ * σ % p25 = A))) rfl rfl rfl rfl rfl (fun w0 hb0 => by exact exec_fe_neq _ _ _ _ (mod_p_lt _) hAp rfl rfl) ?_
      simp only [Act.put, List.setIfInBounds_toArray, List.set_cons_zero, List.set_cons_succ, Nat.zero_add]
      refine lint_end ?_
      by_cases c2 : σ * σ % p25 = A
      · rw [decide_eq_true c2]
        have hroot : rootL p25 t25 A = some (evenOf p25 σ) := by unfold rootL; rw [HR.out, if_pos c2]
        have HROOT := Lib.hid hroot
        have hc0 : wm.cell? ⟨y, 0, none⟩ = some (.int .u64 ((dig σ 0 : Nat) : Int)) := hX.cell (i := 0) (by omega)
        have hpar : dig σ 0 % 2 = σ % 2 := by rw [dig_zero]; omega
        have hl0 := dig_lt σ 0
        have hm : bits .and .u64 ((dig σ 0 : Nat) : Int) 1 = ((σ % 2 : Nat) : Int) := by rw [mask64 (dig σ 0) 1 (by omega) (by decide) 1 rfl, ← hpar]
        by_cases ho : σ % 2 = 1
        · have hev : evenOf p25 σ = subP p25 0 σ := by unfold evenOf; rw [if_pos ho]; unfold subP; rw [Nat.zero_add, Nat.mod_eq_of_lt (negP_lt p25_pos σ)]
          have HEV := Lib.hid hev
          rw [ho] at hm
          clear hroot hev c2 hpar hl0 ho
          go_wp2_with (first
            | (refine wpList_load_arr rfl 31 (.tmp 4) rfl 16 arrFe hX rfl (by omega) ?_; simp only [Nat.zero_add])
            | (go_at_call 27; refine (refNeg_any σ _ hσp).mono ?_; rintro e wn ⟨rfl, hbn⟩
               have hXn := hX.of_block (hbn.block _ hX.lt)
               have hRn := hRr.of_block (hbn.block _ hRr.lt)
               have hBn := hBel.trans (hbn.mono (HGS.out _ hBel))
               clear hX hRr hBel hbn)
            | (refine wpList_store_arr rfl 31 (.tmp 4) (.tmp 29) rfl 16 arrFe hXn rfl rfl (by omega) (fun _ _ => rfl) ?_; intro wo hro hgo hso
               have hXo : wo.rowIs y 31 16 (feF (subP p25 0 σ)) := hro.congr fun i hi => by unfold putN; rw [if_pos (by omega), Nat.sub_zero]
               have hRo := gb_rowIs hRn hgo hyg1
               have hBo := hBn.grown hgo (HGS.out _ hBn) (by intro k hk; cases hk; exact hlyg)
               clear hXn hRn hBn hro hgo hso)
            | (refine wpList_load_arr rfl 31 (.tmp 4) rfl 16 arrFe hXo rfl (by omega) ?_; simp only [Nat.zero_add])
            | (refine wpList_store_arr rfl 31 (.tmp 2) (.tmp 30) rfl 16 arrFe hRo rfl rfl (by omega) (fun _ _ => rfl) ?_; intro wz hrz hgz hsz))
          refine ret_cell_arr_tmp rfl arrFe hrz rfl rfl (by omega) rfl ⟨?_, by rw [HG.out]; exact hBo.grown hgz (HGS.out _ hBo) (by intro k hk; cases hk; exact l1)⟩
          rw [agg_put, HROOT.out]
          show Ending.returned (.tuple #[.agg (arrOf 16 (feF (subP p25 0 σ))), .int .i64 0]) = Ending.returned (.tuple #[.agg (arrOf 16 (feF (evenOf p25 σ))), .int .i64 0])
          rw [HEV.out]
        · have hev : evenOf p25 σ = σ := by unfold evenOf; rw [if_neg ho]
          have HEV := Lib.hid hev
          have ho0 : σ % 2 = 0 := by omega
          rw [ho0] at hm
          clear hroot hev c2 hpar hl0 ho ho0
          go_wp2_with (first
            | (refine wpList_load_arr rfl 31 (.tmp 4) rfl 16 arrFe hX rfl (by omega) ?_; simp only [Nat.zero_add])
            | (refine wpList_store_arr rfl 31 (.tmp 2) (.tmp 30) rfl 16 arrFe hRr rfl rfl (by omega) (fun _ _ => rfl) ?_; intro wz hrz hgz hsz))
          refine ret_cell_arr_tmp rfl arrFe hrz rfl rfl (by omega) rfl ⟨?_, by rw [HG.out]; exact hBel.grown hgz (HGS.out _ hBel) (by intro k hk; cases hk; exact l1)⟩
          rw [agg_put, HROOT.out]
          show Ending.returned (.tuple #[.agg (arrOf 16 (feF σ)), .int .i64 0]) = Ending.returned (.tuple #[.agg (arrOf 16 (feF (evenOf p25 σ))), .int .i64 0])
          rw [HEV.out]
      · rw [decide_eq_false c2]
        have hroot : rootL p25 t25 A = none := by unfold rootL; rw [HR.out, if_neg c2]
        have HROOT := Lib.hid hroot
        clear hroot c2
        go_wp2_with (first
          | refine wpList_build_arr rfl 31 _ rfl (arrOf 16 (feF 0)) (by kernel_rfl) ?_
          | (refine wpList_store_arr rfl 31 (.tmp 2) (.tmp 23) rfl 16 arrFe hRr rfl rfl (by omega) (fun _ _ => rfl) ?_; intro wz hrz hgz hsz))
        refine ret_cell_arr_tmp rfl arrFe hrz rfl rfl (by omega) rfl ⟨?_, by rw [HG.out]; exact hBel.grown hgz (HGS.out _ hBel) (by intro k hk; cases hk; exact l1)⟩
        rw [agg_put, HROOT.out]
        rfl
end Go.Proofs.Ythapdohblphlgaa
