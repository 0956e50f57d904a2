/- Texts joined: what they are for stands ahead of each. -/
import Derived.Test.YtonhpmaiagbheaaMM3
import Derived.ArgAppend
import Derived.Laws.StandIn
import Derived.BigQuiet
import Derived.Deep.QuietTactic
import Derived.WalkSmall
import Derived.Lib.SlBytesConst
import Derived.ProofKit
import Derived.OpenShut
import Derived.ChangeOld
import Derived.Deep.Matrix
set_option linter.unusedSimpArgs false
set_option linter.unusedVariables false

/- The program's points: the point that bytes stand for. -/
namespace Go.Proofs.Ytonhpmaiagbheaa
open Go.RowKit Go.Deep
set_option linter.unusedSimpArgs false
set_option linter.unusedVariables false

theorem notand128 (x : Nat) (h : x < 256) : bits .andNot .u8 (x : Int) 128 = ((x % 128 : Nat) : Int) := by
  have g : ∀ q : Fin 256, bits .andNot .u8 ((q.val : Nat) : Int) 128 = ((q.val % 128 : Nat) : Int) := by decide +kernel
  exact g ⟨x, h⟩
theorem and128 (x : Nat) (h : x < 256) : bits .and .u8 (x : Int) 128 = ((128 * (x / 128) : Nat) : Int) := by
  have g : ∀ q : Fin 256, bits .and .u8 ((q.val : Nat) : Int) 128 = ((128 * (q.val / 128) : Nat) : Int) := by decide +kernel
  exact g ⟨x, h⟩
theorem exec_zeroE {w : World} (ρ : Operand → Value) (t : TypeId) : (execOp ρ (mkOp (.build 50 #[]) t)).run Try.prog w = .ok (.value (.agg (arrOf 4 (ewF 0)))) w := by
  have hr := run_build w 50 #[] (arrOf 4 (ewF 0)) builtE0
  simp [execOp, mkOp, hr, Result.andThen]
theorem exec_rowsP1 (ρ : Operand → Value) (x : Operand) (t : TypeId) (w : World) {v1 : Value} {l1 : List UInt8} (h1 : Bs w v1 l1) (hx : ρ x = v1) :
    (execOp ρ (mkOp (.buildSlice 23 1 #[(0, x)]) t)).run Try.prog w = .ok (.value (.slice (some ⟨w.heap.size, 0, none⟩) 1 1)) (w.alloc (.cells #[v1] 22)) := by
  obtain ⟨a1, c1, rfl, _⟩ := h1
  simp only [execOp, mkOp, List.map_toArray, List.map_cons, List.map_nil, hx]
  go_simp
theorem wpList_rows1 {ops : Array Oper} {rest : List Oper} {o : Oper} {a : Act} {w : World} {Q : Exit → Act → World → Prop} (hgd : o.guard = none) (x : Operand) (ho : o.op = .buildSlice 23 1 #[(0, x)]) {v1 : Value} {l1 : List UInt8} (h1 : Bs w v1 l1) (hx : a.eval x = v1)
    (h : ∀ v w', Bss w' v [l1] → Below w.heap.size w w' → wpList Try.prog ops Q rest (a.put o.dst v) w') : wpList Try.prog ops Q (o :: rest) a w := by
  have hr := exec_rowsP1 a.eval x o.type w h1 hx
  exact wpList_plain hgd fun _ hK => by
    unfold Oper.wp
    rw [exec_mkOp, ho, hr]
    exact hK _ _ (h _ _ (Bss.one h1 rfl) ((Below.refl _ _).alloc (Nat.le_refl _) _))
theorem strict_yes (v : Value) (l C : List UInt8) (Y : Nat) (w : World) (h : Bs w v C) (hC : C = cutB l) (hl : l.length = 32) (hY : numL l 32 % top = Y) (hYl : Y < p25) :
    Calls Try.prog 38 #[v] w fun e w' => e = .returned (.tuple #[.agg (arrOf 4 (ewF Y)), .int .i64 0]) ∧ Below w.heap.size w w' := by
  have g := strict_any v C w h
  have e : strictL C = some Y := by rw [hC, strict_cut l hl, hY, if_pos hYl]
  rw [e] at g
  exact g
theorem strict_no (v : Value) (l C : List UInt8) (w : World) (h : Bs w v C) (hC : C = cutB l) (hl : l.length = 32) (hYl : ¬ numL l 32 % top < p25) :
    Calls Try.prog 38 #[v] w fun e w' => e = .returned (.tuple #[.agg (arrOf 4 (ewF 0)), .int .i64 2]) ∧ Below w.heap.size w w' := by
  have g := strict_any v C w h
  have e : strictL C = none := by rw [hC, strict_cut l hl, if_neg hYl]
  rw [e] at g
  exact g
theorem bes_some (Y x : Nat) (w : World) (hY : Y < p25) (hx : decX Y = some x) : Calls Try.prog 39 #[.agg (arrOf 4 (ewF Y))] w fun e w' => e = .returned (.tuple #[.agg (arrOf 4 (ewF x)), .int .i64 0]) ∧ Below w.heap.size w w' := by
  have g := beside_any Y w hY
  rw [hx] at g
  exact g
theorem bes_none (Y : Nat) (w : World) (hY : Y < p25) (hx : decX Y = none) : Calls Try.prog 39 #[.agg (arrOf 4 (ewF Y))] w fun e w' => e = .returned (.tuple #[.agg (arrOf 4 (ewF 0)), .int .i64 7]) ∧ Below w.heap.size w w' := by
  have g := beside_any Y w hY
  rw [hx] at g
  exact g
theorem pick_to (y : Bool) (A C : Nat) (w : World) : Calls Try.prog 41 #[.bool y, .agg (arrOf 4 (ewF A)), .agg (arrOf 4 (ewF C))] w fun e w' => e = .returned (.agg (arrOf 4 (ewF (if y = true then A else C)))) ∧ Below w.heap.size w w' := pick_any y A C w
set_option maxHeartbeats 4000000 in
set_option maxRecDepth 10000 in
theorem qDecode_1 (v0 : Value) (l0 : List UInt8) (w : World) (h0 : Bs w v0 l0) (hl : ¬ l0.length = 32) : Calls Try.prog 21 #[v0] w fun e w' => e = .returned (.tuple #[.agg (arrOf 12 (qF 0 0 0)), .int .i64 12]) ∧ Below w.heap.size w w' := by
  have B00 := Below.refl w.heap.size w
  obtain ⟨ad0, n0, c0, rfl, e0, y0, z0, hB0⟩ := h0.shape
  have q0 : ¬ (n0 : Int) = 32 := by omega
  clear h0 hB0 B00
  have Bw0 := Below.refl w.heap.size w
  have HGS : Hid (∀ wq : World, Below w.heap.size w wq → w.heap.size ≤ wq.heap.size) := Lib.hid fun wq h => h.size
  go_enter Try.func21, Try.ntmps21
  go_wp2_with (first
    | (have hgo := Bw0; clear hgo
       refine wpList_alloc_row rfl 52 rfl 12 (u64f fun _ => 0) zeroQ ?_
       intro b_t2 w1 lk r_t2 kk
       have l_t2 := zrl HGS Bw0 lk
       have Bw1 := zbt HGS Bw0 kk
       clear Bw0 kk lk)
    | (have hgo := Bw1; clear hgo
       refine wpList_build_arr rfl 52 #[] rfl (arrOf 12 (qF 0 0 0)) ?_ ?_
       · simp only [List.map_toArray, List.map_cons, List.map_nil]; exact builtQ0
       have Bw2 := Bw1
       clear Bw1)
    | (have hgo := Bw2; clear hgo
       refine wpList_store_as rfl 52 (.tmp 2) (.tmp 12) rfl 12 (qF 0 0 0) arrQ r_t2 rfl rfl (by omega) (fun j _ => qF_one _ _ _ j) (fun i hi => putN_whole hi) ?_
       intro w4 q gk
       replace r_t2 := q
       have Bw3 := zbg HGS Bw2 gk l_t2
       clear Bw2 gk q))
  exact ret_cell_as_tmp _ rfl arrQ r_t2 rfl rfl (by omega) (fun _ _ => rfl) rfl ⟨rfl, Bw3⟩
set_option maxHeartbeats 4000000 in
set_option maxRecDepth 10000 in
theorem qDecode_2 (v0 : Value) (l0 : List UInt8) (w : World) (h0 : Bs w v0 l0) (hl : l0.length = 32) (hY : ¬ numL l0 32 % top < p25) : Calls Try.prog 21 #[v0] w fun e w' => e = .returned (.tuple #[.agg (arrOf 12 (qF 0 0 0)), .int .i64 12]) ∧ Below w.heap.size w w' := by
  have HYL := Lib.hid hY
  obtain ⟨gb, off, c0, rfl, y0, z0, hgb, hcells⟩ := h0.open_n hl (by decide)
  have HL := Lib.hid hl
  have HF0 := Lib.hid h0
  have f_b0 := h0
  obtain ⟨q, hq⟩ := nat_var ((l0.getD 31 0).toNat)
  have hql : q < 256 := by rw [hq]; exact UInt8.toNat_lt _
  have a1 := notand128 q hql
  obtain ⟨u, hu⟩ := nat_var (q % 128)
  rw [← hu] at a1
  have HUL : Hid (u < 256) := Lib.hid (by omega)
  have HQL := Lib.hid hql
  have HSG : Hid (numL l0 32 / top = q / 128) := Lib.hid (by rw [(numL_cut l0 hl).2, ← hq])
  have HCB : Hid (cutB l0 = l0.set 31 (UInt8.ofNat u)) := Lib.hid (by rw [hu, hq]; rfl)
  have HQ : Hid (∀ h : 31 < l0.length, (l0[31]'h).toNat = q) := Lib.hid fun h => by rw [hq, List.getD_eq_getElem?_getD, List.getElem?_eq_getElem h]; rfl
  have HC31 : Hid (∀ W, Below w.heap.size w W → W.cell? ⟨gb, off + 31, none⟩ = some (.int .u8 (q : Int))) := Lib.hid fun W hW => (bs_cell (h0.below hW (Nat.le_refl _)) 31 (by rw [hl]; decide)).trans (by rw [HQ.out])
  clear hq hql hu hcells h0 hl hY
  have Bw0 := Below.refl w.heap.size w
  have HGS : Hid (∀ wq : World, Below w.heap.size w wq → w.heap.size ≤ wq.heap.size) := Lib.hid fun wq h => h.size
  have HF_b0 := HF0
  go_enter Try.func21, Try.ntmps21
  go_wp2_with (first
    | (have hgo := Bw0; clear hgo
       refine wpList_alloc_row rfl 52 rfl 12 (u64f fun _ => 0) zeroQ ?_
       intro b_t2 w1 lk r_t2 kk
       have l_t2 := zrl HGS Bw0 lk
       have a_b0_t2 := Bs.away f_b0 lk
       replace f_b0 := zfb f_b0 kk
       have Bw1 := zbt HGS Bw0 kk
       clear Bw0 kk lk)
    | (have hgo := Bw1; clear hgo
       refine wpList_rows1 rfl (.tmp 13) rfl f_b0 rfl ?_
       intro v_r14 w3 F_r14 kk
       replace r_t2 := zrb r_t2 kk
       replace f_b0 := zfb f_b0 kk
       have Bw2 := zbt HGS Bw1 kk
       clear Bw1 kk)
    | (have hgo := Bw2; clear hgo
       go_at_call 33
       refine (cat_any _ _ _ F_r14 (by rw [List.flatten_singleton, HL.out]; decide)).mono ?_
       rintro e w4 ⟨v_c, rfl, o_c, kk⟩
       rw [List.flatten_singleton] at o_c
       clear F_r14
       obtain ⟨g, cap, hv, hg, hgs, _, _⟩ := o_c.open_cons (by rw [HL.out]; decide)
       rw [HL.out] at hv
       subst hv
       have n_c : b_t2 ≠ g := Nat.ne_of_lt (Nat.lt_of_lt_of_le (World.rowIs.lt r_t2) hg)
       have HCAP : Hid (32 ≤ cap) := Lib.hid (owns_cap o_c)
       have HGB : Hid (w.heap.size ≤ g) := Lib.hid (Nat.le_trans (HGS.out _ Bw2) hg)
       replace o_c := o_c.lower (HGS.out _ Bw2)
       clear hg hgs
       replace r_t2 := zrb r_t2 kk
       replace f_b0 := zfb f_b0 kk
       have Bw3 := zbt HGS Bw2 kk
       clear Bw2 kk)
    | (have hgo := Bw3; clear hgo
       refine wpList_load_byte rfl (.tmp 17) rfl 31 q o_c HL.out.symm (by rw [HL.out]; decide) rfl (HQ.out _) ?_
       have Bw4 := Bw3
       clear Bw3)
    | (have hgo := Bw4; clear hgo
       refine wpList_store_byte rfl (.tmp 20) (.tmp 19) rfl 31 u o_c HL.out.symm HCAP.out (by rw [HL.out]; decide) rfl rfl HUL.out ?_
       intro w5 o_d gk
       have Bw5 := Bw4.grown gk (HGS.out _ Bw4) (by intro k hk; cases hk; exact HGB.out)
       replace r_t2 := gb_rowIs r_t2 gk n_c
       replace f_b0 := HF_b0.out.below Bw5 (Nat.le_refl _)
       rw [← HCB.out] at o_d
       have f_d := o_d.bs
       clear Bw4 gk o_d o_c)
    | (have hgo := Bw5; clear hgo
       go_at_call 38
       refine (strict_no _ l0 _ _ f_d rfl HL.out HYL.out).mono ?_
       rintro e w7 ⟨rfl, kk⟩
       replace r_t2 := zrb r_t2 kk
       replace f_b0 := zfb f_b0 kk
       replace f_d := zfb f_d kk
       have Bw6 := zbt HGS Bw5 kk
       clear Bw5 kk)
    | (have hgo := Bw6; clear hgo
       refine wpList_alloc_row rfl 50 rfl 4 (u64f fun _ => 0) zeroE ?_
       intro b_t5 w11 lk r_t5 kk
       have n_t2_t5 := zrn r_t2 lk
       have l_t5 := zrl HGS Bw6 lk
       have a_b0_t5 := Bs.away f_b0 lk
       have a_d_t5 := Bs.away f_d lk
       replace r_t2 := zrb r_t2 kk
       replace f_b0 := zfb f_b0 kk
       replace f_d := zfb f_d kk
       have Bw7 := zbt HGS Bw6 kk
       clear Bw6 kk lk)
    | (have hgo := Bw7; clear hgo
       refine wpList_store_as rfl 50 (.tmp 5) (.tmp 24) rfl 4 (ewF 0) arrE r_t5 rfl rfl (by omega) (fun _ _ => rfl) (fun i hi => putN_whole hi) ?_
       intro w12 q gk
       replace r_t2 := gb_rowIs r_t2 gk n_t2_t5
       replace r_t5 := q
       have Bw8 := zbg HGS Bw7 gk l_t5
       replace f_b0 := gb_bs f_b0 gk a_b0_t5
       replace f_d := gb_bs f_d gk a_d_t5
       clear Bw7 gk q)
    | (have hgo := Bw8; clear hgo
       refine wpList_build_arr rfl 52 #[] rfl (arrOf 12 (qF 0 0 0)) ?_ ?_
       · simp only [List.map_toArray, List.map_cons, List.map_nil]; exact builtQ0
       have Bw9 := Bw8
       clear Bw8)
    | (have hgo := Bw9; clear hgo
       refine wpList_store_as rfl 52 (.tmp 2) (.tmp 28) rfl 12 (qF 0 0 0) arrQ r_t2 rfl rfl (by omega) (fun j _ => qF_one _ _ _ j) (fun i hi => putN_whole hi) ?_
       intro w15 q gk
       replace r_t5 := gb_rowIs r_t5 gk (Ne.symm n_t2_t5)
       replace r_t2 := q
       have Bw10 := zbg HGS Bw9 gk l_t2
       replace f_b0 := gb_bs f_b0 gk a_b0_t2
       clear f_d
       clear Bw9 gk q))
  exact ret_cell_as_tmp _ rfl arrQ r_t2 rfl rfl (by omega) (fun _ _ => rfl) rfl ⟨rfl, Bw10⟩
set_option maxHeartbeats 4000000 in
set_option maxRecDepth 10000 in
theorem qDecode_3 (v0 : Value) (l0 : List UInt8) (w : World) (h0 : Bs w v0 l0) (hl : l0.length = 32) (hY : numL l0 32 % top < p25) (hx : decX (numL l0 32 % top) = none) : Calls Try.prog 21 #[v0] w fun e w' => e = .returned (.tuple #[.agg (arrOf 12 (qF 0 0 0)), .int .i64 12]) ∧ Below w.heap.size w w' := by
  have HYL := Lib.hid hY
  obtain ⟨gb, off, c0, rfl, y0, z0, hgb, hcells⟩ := h0.open_n hl (by decide)
  have HL := Lib.hid hl
  have HF0 := Lib.hid h0
  have f_b0 := h0
  obtain ⟨q, hq⟩ := nat_var ((l0.getD 31 0).toNat)
  have hql : q < 256 := by rw [hq]; exact UInt8.toNat_lt _
  have a1 := notand128 q hql
  obtain ⟨u, hu⟩ := nat_var (q % 128)
  rw [← hu] at a1
  have HUL : Hid (u < 256) := Lib.hid (by omega)
  have HQL := Lib.hid hql
  have HSG : Hid (numL l0 32 / top = q / 128) := Lib.hid (by rw [(numL_cut l0 hl).2, ← hq])
  have HCB : Hid (cutB l0 = l0.set 31 (UInt8.ofNat u)) := Lib.hid (by rw [hu, hq]; rfl)
  have HQ : Hid (∀ h : 31 < l0.length, (l0[31]'h).toNat = q) := Lib.hid fun h => by rw [hq, List.getD_eq_getElem?_getD, List.getElem?_eq_getElem h]; rfl
  have HC31 : Hid (∀ W, Below w.heap.size w W → W.cell? ⟨gb, off + 31, none⟩ = some (.int .u8 (q : Int))) := Lib.hid fun W hW => (bs_cell (h0.below hW (Nat.le_refl _)) 31 (by rw [hl]; decide)).trans (by rw [HQ.out])
  obtain ⟨Y, hYv⟩ := nat_var (numL l0 32 % top)
  have HYv : Hid (numL l0 32 % top = Y) := Lib.hid hYv.symm
  have HY : Hid (Y < p25) := Lib.hid (by rw [hYv]; exact HYL.out)
  rw [← hYv] at hx
  have HRT := Lib.hid fun w => bes_none Y w HY.out hx
  obtain ⟨sg, hsg⟩ := nat_var (q / 128)
  have hsg2 : sg < 2 := by rw [hsg]; exact Nat.div_lt_of_lt_mul hql
  have a3 := and128 q hql
  rw [← hsg] at a3
  clear hsg
  rcases (show sg = 0 ∨ sg = 1 by omega) with rfl | rfl
  · have a2 : bits .and .u8 (q : Int) 128 = 0 := a3
    clear a3 hsg2 hx hYv
    clear hq hql hu hcells h0 hl hY
    have Bw0 := Below.refl w.heap.size w
    have HGS : Hid (∀ wq : World, Below w.heap.size w wq → w.heap.size ≤ wq.heap.size) := Lib.hid fun wq h => h.size
    have HF_b0 := HF0
    go_enter Try.func21, Try.ntmps21
    go_wp2_with (first
      | (have hgo := Bw0; clear hgo
         refine wpList_alloc_row rfl 52 rfl 12 (u64f fun _ => 0) zeroQ ?_
         intro b_t2 w1 lk r_t2 kk
         have l_t2 := zrl HGS Bw0 lk
         have a_b0_t2 := Bs.away f_b0 lk
         replace f_b0 := zfb f_b0 kk
         have Bw1 := zbt HGS Bw0 kk
         clear Bw0 kk lk)
      | (have hgo := Bw1; clear hgo
         refine wpList_rows1 rfl (.tmp 13) rfl f_b0 rfl ?_
         intro v_r14 w3 F_r14 kk
         replace r_t2 := zrb r_t2 kk
         replace f_b0 := zfb f_b0 kk
         have Bw2 := zbt HGS Bw1 kk
         clear Bw1 kk)
      | (have hgo := Bw2; clear hgo
         go_at_call 33
         refine (cat_any _ _ _ F_r14 (by rw [List.flatten_singleton, HL.out]; decide)).mono ?_
         rintro e w4 ⟨v_c, rfl, o_c, kk⟩
         rw [List.flatten_singleton] at o_c
         clear F_r14
         obtain ⟨g, cap, hv, hg, hgs, _, _⟩ := o_c.open_cons (by rw [HL.out]; decide)
         rw [HL.out] at hv
         subst hv
         have n_c : b_t2 ≠ g := Nat.ne_of_lt (Nat.lt_of_lt_of_le (World.rowIs.lt r_t2) hg)
         have HCAP : Hid (32 ≤ cap) := Lib.hid (owns_cap o_c)
         have HGB : Hid (w.heap.size ≤ g) := Lib.hid (Nat.le_trans (HGS.out _ Bw2) hg)
         replace o_c := o_c.lower (HGS.out _ Bw2)
         clear hg hgs
         replace r_t2 := zrb r_t2 kk
         replace f_b0 := zfb f_b0 kk
         have Bw3 := zbt HGS Bw2 kk
         clear Bw2 kk)
      | (have hgo := Bw3; clear hgo
         refine wpList_load_byte rfl (.tmp 17) rfl 31 q o_c HL.out.symm (by rw [HL.out]; decide) rfl (HQ.out _) ?_
         have Bw4 := Bw3
         clear Bw3)
      | (have hgo := Bw4; clear hgo
         refine wpList_store_byte rfl (.tmp 20) (.tmp 19) rfl 31 u o_c HL.out.symm HCAP.out (by rw [HL.out]; decide) rfl rfl HUL.out ?_
         intro w5 o_d gk
         have Bw5 := Bw4.grown gk (HGS.out _ Bw4) (by intro k hk; cases hk; exact HGB.out)
         replace r_t2 := gb_rowIs r_t2 gk n_c
         replace f_b0 := HF_b0.out.below Bw5 (Nat.le_refl _)
         rw [← HCB.out] at o_d
         have f_d := o_d.bs
         clear Bw4 gk o_d o_c)
      | (have hgo := Bw5; clear hgo
         go_at_call 38
         refine (strict_yes _ l0 _ Y _ f_d rfl HL.out HYv.out HY.out).mono ?_
         rintro e w7 ⟨rfl, kk⟩
         replace r_t2 := zrb r_t2 kk
         replace f_b0 := zfb f_b0 kk
         replace f_d := zfb f_d kk
         have Bw6 := zbt HGS Bw5 kk
         clear Bw5 kk)
      | (have hgo := Bw6; clear hgo
         refine wpList_alloc_row rfl 50 rfl 4 (u64f fun _ => 0) zeroE ?_
         intro b_t5 w11 lk r_t5 kk
         have n_t2_t5 := zrn r_t2 lk
         have l_t5 := zrl HGS Bw6 lk
         have a_b0_t5 := Bs.away f_b0 lk
         have a_d_t5 := Bs.away f_d lk
         replace r_t2 := zrb r_t2 kk
         replace f_b0 := zfb f_b0 kk
         replace f_d := zfb f_d kk
         have Bw7 := zbt HGS Bw6 kk
         clear Bw6 kk lk)
      | (have hgo := Bw7; clear hgo
         refine wpList_store_as rfl 50 (.tmp 5) (.tmp 24) rfl 4 (ewF Y) arrE r_t5 rfl rfl (by omega) (fun _ _ => rfl) (fun i hi => putN_whole hi) ?_
         intro w12 q gk
         replace r_t2 := gb_rowIs r_t2 gk n_t2_t5
         replace r_t5 := q
         have Bw8 := zbg HGS Bw7 gk l_t5
         replace f_b0 := gb_bs f_b0 gk a_b0_t5
         replace f_d := gb_bs f_d gk a_d_t5
         clear Bw7 gk q)
      | (have hgo := Bw8; clear hgo
         refine wpList_load_cat rfl (.tmp 30) rfl (HC31.out _ Bw8) rfl ?_
         have Bw9 := Bw8
         clear Bw8)
      | (have hgo := Bw9; clear hgo
         refine wpList_load_as rfl 50 (.tmp 5) rfl 4 (ewF Y) arrE r_t5 rfl (by omega) (fun i hi => by rw [Nat.zero_add]) ?_
         have Bw10 := Bw9
         clear Bw9)
      | (have hgo := Bw10; clear hgo
         go_at_call 39
         refine (HRT.out _).mono ?_
         rintro e w21 ⟨rfl, kk⟩
         replace r_t2 := zrb r_t2 kk
         replace r_t5 := zrb r_t5 kk
         replace f_b0 := zfb f_b0 kk
         replace f_d := zfb f_d kk
         have Bw11 := zbt HGS Bw10 kk
         clear Bw10 kk)
      | (have hgo := Bw11; clear hgo
         refine wpList_alloc_row rfl 50 rfl 4 (u64f fun _ => 0) zeroE ?_
         intro b_t8 w25 lk r_t8 kk
         have n_t2_t8 := zrn r_t2 lk
         have n_t5_t8 := zrn r_t5 lk
         have l_t8 := zrl HGS Bw11 lk
         have a_b0_t8 := Bs.away f_b0 lk
         have a_d_t8 := Bs.away f_d lk
         replace r_t2 := zrb r_t2 kk
         replace r_t5 := zrb r_t5 kk
         replace f_b0 := zfb f_b0 kk
         replace f_d := zfb f_d kk
         have Bw12 := zbt HGS Bw11 kk
         clear Bw11 kk lk)
      | (have hgo := Bw12; clear hgo
         refine wpList_store_as rfl 50 (.tmp 8) (.tmp 37) rfl 4 (ewF 0) arrE r_t8 rfl rfl (by omega) (fun _ _ => rfl) (fun i hi => putN_whole hi) ?_
         intro w26 q gk
         replace r_t2 := gb_rowIs r_t2 gk n_t2_t8
         replace r_t5 := gb_rowIs r_t5 gk n_t5_t8
         replace r_t8 := q
         have Bw13 := zbg HGS Bw12 gk l_t8
         replace f_b0 := gb_bs f_b0 gk a_b0_t8
         replace f_d := gb_bs f_d gk a_d_t8
         clear Bw12 gk q)
      | (have hgo := Bw13; clear hgo
         refine wpList_build_arr rfl 52 #[] rfl (arrOf 12 (qF 0 0 0)) ?_ ?_
         · simp only [List.map_toArray, List.map_cons, List.map_nil]; exact builtQ0
         have Bw14 := Bw13
         clear Bw13)
      | (have hgo := Bw14; clear hgo
         refine wpList_store_as rfl 52 (.tmp 2) (.tmp 49) rfl 12 (qF 0 0 0) arrQ r_t2 rfl rfl (by omega) (fun j _ => qF_one _ _ _ j) (fun i hi => putN_whole hi) ?_
         intro w39 q gk
         replace r_t5 := gb_rowIs r_t5 gk (Ne.symm n_t2_t5)
         replace r_t8 := gb_rowIs r_t8 gk (Ne.symm n_t2_t8)
         replace r_t2 := q
         have Bw15 := zbg HGS Bw14 gk l_t2
         replace f_b0 := gb_bs f_b0 gk a_b0_t2
         clear f_d
         clear Bw14 gk q))
    exact ret_cell_as_tmp _ rfl arrQ r_t2 rfl rfl (by omega) (fun _ _ => rfl) rfl ⟨rfl, Bw15⟩
  · have a2 : bits .and .u8 (q : Int) 128 = 128 := a3
    clear a3 hsg2 hx hYv
    clear hq hql hu hcells h0 hl hY
    have Bw0 := Below.refl w.heap.size w
    have HGS : Hid (∀ wq : World, Below w.heap.size w wq → w.heap.size ≤ wq.heap.size) := Lib.hid fun wq h => h.size
    have HF_b0 := HF0
    go_enter Try.func21, Try.ntmps21
    go_wp2_with (first
      | (have hgo := Bw0; clear hgo
         refine wpList_alloc_row rfl 52 rfl 12 (u64f fun _ => 0) zeroQ ?_
         intro b_t2 w1 lk r_t2 kk
         have l_t2 := zrl HGS Bw0 lk
         have a_b0_t2 := Bs.away f_b0 lk
         replace f_b0 := zfb f_b0 kk
         have Bw1 := zbt HGS Bw0 kk
         clear Bw0 kk lk)
      | (have hgo := Bw1; clear hgo
         refine wpList_rows1 rfl (.tmp 13) rfl f_b0 rfl ?_
         intro v_r14 w3 F_r14 kk
         replace r_t2 := zrb r_t2 kk
         replace f_b0 := zfb f_b0 kk
         have Bw2 := zbt HGS Bw1 kk
         clear Bw1 kk)
      | (have hgo := Bw2; clear hgo
         go_at_call 33
         refine (cat_any _ _ _ F_r14 (by rw [List.flatten_singleton, HL.out]; decide)).mono ?_
         rintro e w4 ⟨v_c, rfl, o_c, kk⟩
         rw [List.flatten_singleton] at o_c
         clear F_r14
         obtain ⟨g, cap, hv, hg, hgs, _, _⟩ := o_c.open_cons (by rw [HL.out]; decide)
         rw [HL.out] at hv
         subst hv
         have n_c : b_t2 ≠ g := Nat.ne_of_lt (Nat.lt_of_lt_of_le (World.rowIs.lt r_t2) hg)
         have HCAP : Hid (32 ≤ cap) := Lib.hid (owns_cap o_c)
         have HGB : Hid (w.heap.size ≤ g) := Lib.hid (Nat.le_trans (HGS.out _ Bw2) hg)
         replace o_c := o_c.lower (HGS.out _ Bw2)
         clear hg hgs
         replace r_t2 := zrb r_t2 kk
         replace f_b0 := zfb f_b0 kk
         have Bw3 := zbt HGS Bw2 kk
         clear Bw2 kk)
      | (have hgo := Bw3; clear hgo
         refine wpList_load_byte rfl (.tmp 17) rfl 31 q o_c HL.out.symm (by rw [HL.out]; decide) rfl (HQ.out _) ?_
         have Bw4 := Bw3
         clear Bw3)
      | (have hgo := Bw4; clear hgo
         refine wpList_store_byte rfl (.tmp 20) (.tmp 19) rfl 31 u o_c HL.out.symm HCAP.out (by rw [HL.out]; decide) rfl rfl HUL.out ?_
         intro w5 o_d gk
         have Bw5 := Bw4.grown gk (HGS.out _ Bw4) (by intro k hk; cases hk; exact HGB.out)
         replace r_t2 := gb_rowIs r_t2 gk n_c
         replace f_b0 := HF_b0.out.below Bw5 (Nat.le_refl _)
         rw [← HCB.out] at o_d
         have f_d := o_d.bs
         clear Bw4 gk o_d o_c)
      | (have hgo := Bw5; clear hgo
         go_at_call 38
         refine (strict_yes _ l0 _ Y _ f_d rfl HL.out HYv.out HY.out).mono ?_
         rintro e w7 ⟨rfl, kk⟩
         replace r_t2 := zrb r_t2 kk
         replace f_b0 := zfb f_b0 kk
         replace f_d := zfb f_d kk
         have Bw6 := zbt HGS Bw5 kk
         clear Bw5 kk)
      | (have hgo := Bw6; clear hgo
         refine wpList_alloc_row rfl 50 rfl 4 (u64f fun _ => 0) zeroE ?_
         intro b_t5 w11 lk r_t5 kk
         have n_t2_t5 := zrn r_t2 lk
         have l_t5 := zrl HGS Bw6 lk
         have a_b0_t5 := Bs.away f_b0 lk
         have a_d_t5 := Bs.away f_d lk
         replace r_t2 := zrb r_t2 kk
         replace f_b0 := zfb f_b0 kk
         replace f_d := zfb f_d kk
         have Bw7 := zbt HGS Bw6 kk
         clear Bw6 kk lk)
      | (have hgo := Bw7; clear hgo
         refine wpList_store_as rfl 50 (.tmp 5) (.tmp 24) rfl 4 (ewF Y) arrE r_t5 rfl rfl (by omega) (fun _ _ => rfl) (fun i hi => putN_whole hi) ?_
         intro w12 q gk
         replace r_t2 := gb_rowIs r_t2 gk n_t2_t5
         replace r_t5 := q
         have Bw8 := zbg HGS Bw7 gk l_t5
         replace f_b0 := gb_bs f_b0 gk a_b0_t5
         replace f_d := gb_bs f_d gk a_d_t5
         clear Bw7 gk q)
      | (have hgo := Bw8; clear hgo
         refine wpList_load_cat rfl (.tmp 30) rfl (HC31.out _ Bw8) rfl ?_
         have Bw9 := Bw8
         clear Bw8)
      | (have hgo := Bw9; clear hgo
         refine wpList_load_as rfl 50 (.tmp 5) rfl 4 (ewF Y) arrE r_t5 rfl (by omega) (fun i hi => by rw [Nat.zero_add]) ?_
         have Bw10 := Bw9
         clear Bw9)
      | (have hgo := Bw10; clear hgo
         go_at_call 39
         refine (HRT.out _).mono ?_
         rintro e w21 ⟨rfl, kk⟩
         replace r_t2 := zrb r_t2 kk
         replace r_t5 := zrb r_t5 kk
         replace f_b0 := zfb f_b0 kk
         replace f_d := zfb f_d kk
         have Bw11 := zbt HGS Bw10 kk
         clear Bw10 kk)
      | (have hgo := Bw11; clear hgo
         refine wpList_alloc_row rfl 50 rfl 4 (u64f fun _ => 0) zeroE ?_
         intro b_t8 w25 lk r_t8 kk
         have n_t2_t8 := zrn r_t2 lk
         have n_t5_t8 := zrn r_t5 lk
         have l_t8 := zrl HGS Bw11 lk
         have a_b0_t8 := Bs.away f_b0 lk
         have a_d_t8 := Bs.away f_d lk
         replace r_t2 := zrb r_t2 kk
         replace r_t5 := zrb r_t5 kk
         replace f_b0 := zfb f_b0 kk
         replace f_d := zfb f_d kk
         have Bw12 := zbt HGS Bw11 kk
         clear Bw11 kk lk)
      | (have hgo := Bw12; clear hgo
         refine wpList_store_as rfl 50 (.tmp 8) (.tmp 37) rfl 4 (ewF 0) arrE r_t8 rfl rfl (by omega) (fun _ _ => rfl) (fun i hi => putN_whole hi) ?_
         intro w26 q gk
         replace r_t2 := gb_rowIs r_t2 gk n_t2_t8
         replace r_t5 := gb_rowIs r_t5 gk n_t5_t8
         replace r_t8 := q
         have Bw13 := zbg HGS Bw12 gk l_t8
         replace f_b0 := gb_bs f_b0 gk a_b0_t8
         replace f_d := gb_bs f_d gk a_d_t8
         clear Bw12 gk q)
      | (have hgo := Bw13; clear hgo
         refine wpList_build_arr rfl 52 #[] rfl (arrOf 12 (qF 0 0 0)) ?_ ?_
         · simp only [List.map_toArray, List.map_cons, List.map_nil]; exact builtQ0
         have Bw14 := Bw13
         clear Bw13)
      | (have hgo := Bw14; clear hgo
         refine wpList_store_as rfl 52 (.tmp 2) (.tmp 49) rfl 12 (qF 0 0 0) arrQ r_t2 rfl rfl (by omega) (fun j _ => qF_one _ _ _ j) (fun i hi => putN_whole hi) ?_
         intro w39 q gk
         replace r_t5 := gb_rowIs r_t5 gk (Ne.symm n_t2_t5)
         replace r_t8 := gb_rowIs r_t8 gk (Ne.symm n_t2_t8)
         replace r_t2 := q
         have Bw15 := zbg HGS Bw14 gk l_t2
         replace f_b0 := gb_bs f_b0 gk a_b0_t2
         clear f_d
         clear Bw14 gk q))
    exact ret_cell_as_tmp _ rfl arrQ r_t2 rfl rfl (by omega) (fun _ _ => rfl) rfl ⟨rfl, Bw15⟩
set_option maxHeartbeats 4000000 in
set_option maxRecDepth 10000 in
theorem qDecode_4 (v0 : Value) (l0 : List UInt8) (w : World) (h0 : Bs w v0 l0) (hl : l0.length = 32) (hY : numL l0 32 % top < p25) (x : Nat) (hx : decX (numL l0 32 % top) = some x) (ho : numL l0 32 / top = 1) (hx0 : x = 0) : Calls Try.prog 21 #[v0] w fun e w' => e = .returned (.tuple #[.agg (arrOf 12 (qF 0 0 0)), .int .i64 12]) ∧ Below w.heap.size w w' := by
  have HYL := Lib.hid hY
  obtain ⟨gb, off, c0, rfl, y0, z0, hgb, hcells⟩ := h0.open_n hl (by decide)
  have HL := Lib.hid hl
  have HF0 := Lib.hid h0
  have f_b0 := h0
  obtain ⟨q, hq⟩ := nat_var ((l0.getD 31 0).toNat)
  have hql : q < 256 := by rw [hq]; exact UInt8.toNat_lt _
  have a1 := notand128 q hql
  obtain ⟨u, hu⟩ := nat_var (q % 128)
  rw [← hu] at a1
  have HUL : Hid (u < 256) := Lib.hid (by omega)
  have HQL := Lib.hid hql
  have HSG : Hid (numL l0 32 / top = q / 128) := Lib.hid (by rw [(numL_cut l0 hl).2, ← hq])
  have HCB : Hid (cutB l0 = l0.set 31 (UInt8.ofNat u)) := Lib.hid (by rw [hu, hq]; rfl)
  have HQ : Hid (∀ h : 31 < l0.length, (l0[31]'h).toNat = q) := Lib.hid fun h => by rw [hq, List.getD_eq_getElem?_getD, List.getElem?_eq_getElem h]; rfl
  have HC31 : Hid (∀ W, Below w.heap.size w W → W.cell? ⟨gb, off + 31, none⟩ = some (.int .u8 (q : Int))) := Lib.hid fun W hW => (bs_cell (h0.below hW (Nat.le_refl _)) 31 (by rw [hl]; decide)).trans (by rw [HQ.out])
  obtain ⟨Y, hYv⟩ := nat_var (numL l0 32 % top)
  have HYv : Hid (numL l0 32 % top = Y) := Lib.hid hYv.symm
  have HY : Hid (Y < p25) := Lib.hid (by rw [hYv]; exact HYL.out)
  rw [← hYv] at hx
  have HRT := Lib.hid fun w => bes_some Y x w HY.out hx
  have Hx : Hid (x < p25) := Lib.hid (decX_some HY.out hx).1.1
  have a2 : bits .and .u8 (q : Int) 128 = 128 := by have h := and128 q hql; rw [← HSG.out, ho] at h; exact h
  have HX0 := Lib.hid (decide_eq_true hx0)
  clear hx0
  clear ho
  clear hx hYv
  clear hq hql hu hcells h0 hl hY
  have Bw0 := Below.refl w.heap.size w
  have HGS : Hid (∀ wq : World, Below w.heap.size w wq → w.heap.size ≤ wq.heap.size) := Lib.hid fun wq h => h.size
  have HF_b0 := HF0
  go_enter Try.func21, Try.ntmps21
  go_wp2_with (first
    | (have hgo := Bw0; clear hgo
       refine wpList_alloc_row rfl 52 rfl 12 (u64f fun _ => 0) zeroQ ?_
       intro b_t2 w1 lk r_t2 kk
       have l_t2 := zrl HGS Bw0 lk
       have a_b0_t2 := Bs.away f_b0 lk
       replace f_b0 := zfb f_b0 kk
       have Bw1 := zbt HGS Bw0 kk
       clear Bw0 kk lk)
    | (have hgo := Bw1; clear hgo
       refine wpList_rows1 rfl (.tmp 13) rfl f_b0 rfl ?_
       intro v_r14 w3 F_r14 kk
       replace r_t2 := zrb r_t2 kk
       replace f_b0 := zfb f_b0 kk
       have Bw2 := zbt HGS Bw1 kk
       clear Bw1 kk)
    | (have hgo := Bw2; clear hgo
       go_at_call 33
       refine (cat_any _ _ _ F_r14 (by rw [List.flatten_singleton, HL.out]; decide)).mono ?_
       rintro e w4 ⟨v_c, rfl, o_c, kk⟩
       rw [List.flatten_singleton] at o_c
       clear F_r14
       obtain ⟨g, cap, hv, hg, hgs, _, _⟩ := o_c.open_cons (by rw [HL.out]; decide)
       rw [HL.out] at hv
       subst hv
       have n_c : b_t2 ≠ g := Nat.ne_of_lt (Nat.lt_of_lt_of_le (World.rowIs.lt r_t2) hg)
       have HCAP : Hid (32 ≤ cap) := Lib.hid (owns_cap o_c)
       have HGB : Hid (w.heap.size ≤ g) := Lib.hid (Nat.le_trans (HGS.out _ Bw2) hg)
       replace o_c := o_c.lower (HGS.out _ Bw2)
       clear hg hgs
       replace r_t2 := zrb r_t2 kk
       replace f_b0 := zfb f_b0 kk
       have Bw3 := zbt HGS Bw2 kk
       clear Bw2 kk)
    | (have hgo := Bw3; clear hgo
       refine wpList_load_byte rfl (.tmp 17) rfl 31 q o_c HL.out.symm (by rw [HL.out]; decide) rfl (HQ.out _) ?_
       have Bw4 := Bw3
       clear Bw3)
    | (have hgo := Bw4; clear hgo
       refine wpList_store_byte rfl (.tmp 20) (.tmp 19) rfl 31 u o_c HL.out.symm HCAP.out (by rw [HL.out]; decide) rfl rfl HUL.out ?_
       intro w5 o_d gk
       have Bw5 := Bw4.grown gk (HGS.out _ Bw4) (by intro k hk; cases hk; exact HGB.out)
       replace r_t2 := gb_rowIs r_t2 gk n_c
       replace f_b0 := HF_b0.out.below Bw5 (Nat.le_refl _)
       rw [← HCB.out] at o_d
       have f_d := o_d.bs
       clear Bw4 gk o_d o_c)
    | (have hgo := Bw5; clear hgo
       go_at_call 38
       refine (strict_yes _ l0 _ Y _ f_d rfl HL.out HYv.out HY.out).mono ?_
       rintro e w7 ⟨rfl, kk⟩
       replace r_t2 := zrb r_t2 kk
       replace f_b0 := zfb f_b0 kk
       replace f_d := zfb f_d kk
       have Bw6 := zbt HGS Bw5 kk
       clear Bw5 kk)
    | (have hgo := Bw6; clear hgo
       refine wpList_alloc_row rfl 50 rfl 4 (u64f fun _ => 0) zeroE ?_
       intro b_t5 w11 lk r_t5 kk
       have n_t2_t5 := zrn r_t2 lk
       have l_t5 := zrl HGS Bw6 lk
       have a_b0_t5 := Bs.away f_b0 lk
       have a_d_t5 := Bs.away f_d lk
       replace r_t2 := zrb r_t2 kk
       replace f_b0 := zfb f_b0 kk
       replace f_d := zfb f_d kk
       have Bw7 := zbt HGS Bw6 kk
       clear Bw6 kk lk)
    | (have hgo := Bw7; clear hgo
       refine wpList_store_as rfl 50 (.tmp 5) (.tmp 24) rfl 4 (ewF Y) arrE r_t5 rfl rfl (by omega) (fun _ _ => rfl) (fun i hi => putN_whole hi) ?_
       intro w12 q gk
       replace r_t2 := gb_rowIs r_t2 gk n_t2_t5
       replace r_t5 := q
       have Bw8 := zbg HGS Bw7 gk l_t5
       replace f_b0 := gb_bs f_b0 gk a_b0_t5
       replace f_d := gb_bs f_d gk a_d_t5
       clear Bw7 gk q)
    | (have hgo := Bw8; clear hgo
       refine wpList_load_cat rfl (.tmp 30) rfl (HC31.out _ Bw8) rfl ?_
       have Bw9 := Bw8
       clear Bw8)
    | (have hgo := Bw9; clear hgo
       refine wpList_load_as rfl 50 (.tmp 5) rfl 4 (ewF Y) arrE r_t5 rfl (by omega) (fun i hi => by rw [Nat.zero_add]) ?_
       have Bw10 := Bw9
       clear Bw9)
    | (have hgo := Bw10; clear hgo
       go_at_call 39
       refine (HRT.out _).mono ?_
       rintro e w21 ⟨rfl, kk⟩
       replace r_t2 := zrb r_t2 kk
       replace r_t5 := zrb r_t5 kk
       replace f_b0 := zfb f_b0 kk
       replace f_d := zfb f_d kk
       have Bw11 := zbt HGS Bw10 kk
       clear Bw10 kk)
    | (have hgo := Bw11; clear hgo
       refine wpList_alloc_row rfl 50 rfl 4 (u64f fun _ => 0) zeroE ?_
       intro b_t8 w25 lk r_t8 kk
       have n_t2_t8 := zrn r_t2 lk
       have n_t5_t8 := zrn r_t5 lk
       have l_t8 := zrl HGS Bw11 lk
       have a_b0_t8 := Bs.away f_b0 lk
       have a_d_t8 := Bs.away f_d lk
       replace r_t2 := zrb r_t2 kk
       replace r_t5 := zrb r_t5 kk
       replace f_b0 := zfb f_b0 kk
       replace f_d := zfb f_d kk
       have Bw12 := zbt HGS Bw11 kk
       clear Bw11 kk lk)
    | (have hgo := Bw12; clear hgo
       refine wpList_store_as rfl 50 (.tmp 8) (.tmp 37) rfl 4 (ewF x) arrE r_t8 rfl rfl (by omega) (fun _ _ => rfl) (fun i hi => putN_whole hi) ?_
       intro w26 q gk
       replace r_t2 := gb_rowIs r_t2 gk n_t2_t8
       replace r_t5 := gb_rowIs r_t5 gk n_t5_t8
       replace r_t8 := q
       have Bw13 := zbg HGS Bw12 gk l_t8
       replace f_b0 := gb_bs f_b0 gk a_b0_t8
       replace f_d := gb_bs f_d gk a_d_t8
       clear Bw12 gk q)
    | (have hgo := Bw13; clear hgo
       refine wpList_load_asg rfl 50 (.tmp 8) rfl 4 (ewF x) arrE r_t8 rfl (by omega) (fun i hi => by rw [Nat.zero_add]) ?_
       have Bw14 := Bw13
       clear Bw13)
    | (have hgo := Bw14; clear hgo
       refine wpList_value_given rfl (.agg (arrOf 4 (ewF 0))) (by rw [exec_mkOp]; exact exec_zeroE _ _) ?_
       have Bw15 := Bw14
       clear Bw14)
    | (have hgo := Bw15; clear hgo
       go_at_call 40
       refine (sameB_any x 0 true _ Hx.out p25_pos HX0.out).mono ?_
       rintro e w35 ⟨rfl, kk⟩
       replace r_t2 := zrb r_t2 kk
       replace r_t5 := zrb r_t5 kk
       replace r_t8 := zrb r_t8 kk
       replace f_b0 := zfb f_b0 kk
       replace f_d := zfb f_d kk
       have Bw16 := zbt HGS Bw15 kk
       clear Bw15 kk)
    | (have hgo := Bw16; clear hgo
       refine wpList_build_arr rfl 52 #[] rfl (arrOf 12 (qF 0 0 0)) ?_ ?_
       · simp only [List.map_toArray, List.map_cons, List.map_nil]; exact builtQ0
       have Bw17 := Bw16
       clear Bw16)
    | (have hgo := Bw17; clear hgo
       refine wpList_store_as rfl 52 (.tmp 2) (.tmp 49) rfl 12 (qF 0 0 0) arrQ r_t2 rfl rfl (by omega) (fun j _ => qF_one _ _ _ j) (fun i hi => putN_whole hi) ?_
       intro w39 q gk
       replace r_t5 := gb_rowIs r_t5 gk (Ne.symm n_t2_t5)
       replace r_t8 := gb_rowIs r_t8 gk (Ne.symm n_t2_t8)
       replace r_t2 := q
       have Bw18 := zbg HGS Bw17 gk l_t2
       replace f_b0 := gb_bs f_b0 gk a_b0_t2
       clear f_d
       clear Bw17 gk q))
  exact ret_cell_as_tmp _ rfl arrQ r_t2 rfl rfl (by omega) (fun _ _ => rfl) rfl ⟨rfl, Bw18⟩
set_option maxHeartbeats 4000000 in
set_option maxRecDepth 10000 in
theorem qDecode_5 (v0 : Value) (l0 : List UInt8) (w : World) (h0 : Bs w v0 l0) (hl : l0.length = 32) (hY : numL l0 32 % top < p25) (x : Nat) (hx : decX (numL l0 32 % top) = some x) (ho : numL l0 32 / top = 0) : Calls Try.prog 21 #[v0] w fun e w' => e = .returned (.tuple #[.agg (arrOf 12 (qF x (numL l0 32 % top) 1)), .int .i64 0]) ∧ Below w.heap.size w w' := by
  have HYL := Lib.hid hY
  obtain ⟨gb, off, c0, rfl, y0, z0, hgb, hcells⟩ := h0.open_n hl (by decide)
  have HL := Lib.hid hl
  have HF0 := Lib.hid h0
  have f_b0 := h0
  obtain ⟨q, hq⟩ := nat_var ((l0.getD 31 0).toNat)
  have hql : q < 256 := by rw [hq]; exact UInt8.toNat_lt _
  have a1 := notand128 q hql
  obtain ⟨u, hu⟩ := nat_var (q % 128)
  rw [← hu] at a1
  have HUL : Hid (u < 256) := Lib.hid (by omega)
  have HQL := Lib.hid hql
  have HSG : Hid (numL l0 32 / top = q / 128) := Lib.hid (by rw [(numL_cut l0 hl).2, ← hq])
  have HCB : Hid (cutB l0 = l0.set 31 (UInt8.ofNat u)) := Lib.hid (by rw [hu, hq]; rfl)
  have HQ : Hid (∀ h : 31 < l0.length, (l0[31]'h).toNat = q) := Lib.hid fun h => by rw [hq, List.getD_eq_getElem?_getD, List.getElem?_eq_getElem h]; rfl
  have HC31 : Hid (∀ W, Below w.heap.size w W → W.cell? ⟨gb, off + 31, none⟩ = some (.int .u8 (q : Int))) := Lib.hid fun W hW => (bs_cell (h0.below hW (Nat.le_refl _)) 31 (by rw [hl]; decide)).trans (by rw [HQ.out])
  obtain ⟨Y, hYv⟩ := nat_var (numL l0 32 % top)
  have HYv : Hid (numL l0 32 % top = Y) := Lib.hid hYv.symm
  have HY : Hid (Y < p25) := Lib.hid (by rw [hYv]; exact HYL.out)
  rw [← hYv] at hx
  have HRT := Lib.hid fun w => bes_some Y x w HY.out hx
  have Hx : Hid (x < p25) := Lib.hid (decX_some HY.out hx).1.1
  have a2 : bits .and .u8 (q : Int) 128 = 0 := by have h := and128 q hql; rw [← HSG.out, ho] at h; exact h
  clear ho
  clear hx hYv
  clear hq hql hu hcells h0 hl hY
  have Bw0 := Below.refl w.heap.size w
  have HGS : Hid (∀ wq : World, Below w.heap.size w wq → w.heap.size ≤ wq.heap.size) := Lib.hid fun wq h => h.size
  have HF_b0 := HF0
  go_enter Try.func21, Try.ntmps21
  go_wp2_with (first
    | (have hgo := Bw0; clear hgo
       refine wpList_alloc_row rfl 52 rfl 12 (u64f fun _ => 0) zeroQ ?_
       intro b_t2 w1 lk r_t2 kk
       have l_t2 := zrl HGS Bw0 lk
       have a_b0_t2 := Bs.away f_b0 lk
       replace f_b0 := zfb f_b0 kk
       have Bw1 := zbt HGS Bw0 kk
       clear Bw0 kk lk)
    | (have hgo := Bw1; clear hgo
       refine wpList_rows1 rfl (.tmp 13) rfl f_b0 rfl ?_
       intro v_r14 w3 F_r14 kk
       replace r_t2 := zrb r_t2 kk
       replace f_b0 := zfb f_b0 kk
       have Bw2 := zbt HGS Bw1 kk
       clear Bw1 kk)
    | (have hgo := Bw2; clear hgo
       go_at_call 33
       refine (cat_any _ _ _ F_r14 (by rw [List.flatten_singleton, HL.out]; decide)).mono ?_
       rintro e w4 ⟨v_c, rfl, o_c, kk⟩
       rw [List.flatten_singleton] at o_c
       clear F_r14
       obtain ⟨g, cap, hv, hg, hgs, _, _⟩ := o_c.open_cons (by rw [HL.out]; decide)
       rw [HL.out] at hv
       subst hv
       have n_c : b_t2 ≠ g := Nat.ne_of_lt (Nat.lt_of_lt_of_le (World.rowIs.lt r_t2) hg)
       have HCAP : Hid (32 ≤ cap) := Lib.hid (owns_cap o_c)
       have HGB : Hid (w.heap.size ≤ g) := Lib.hid (Nat.le_trans (HGS.out _ Bw2) hg)
       replace o_c := o_c.lower (HGS.out _ Bw2)
       clear hg hgs
       replace r_t2 := zrb r_t2 kk
       replace f_b0 := zfb f_b0 kk
       have Bw3 := zbt HGS Bw2 kk
       clear Bw2 kk)
    | (have hgo := Bw3; clear hgo
       refine wpList_load_byte rfl (.tmp 17) rfl 31 q o_c HL.out.symm (by rw [HL.out]; decide) rfl (HQ.out _) ?_
       have Bw4 := Bw3
       clear Bw3)
    | (have hgo := Bw4; clear hgo
       refine wpList_store_byte rfl (.tmp 20) (.tmp 19) rfl 31 u o_c HL.out.symm HCAP.out (by rw [HL.out]; decide) rfl rfl HUL.out ?_
       intro w5 o_d gk
       have Bw5 := Bw4.grown gk (HGS.out _ Bw4) (by intro k hk; cases hk; exact HGB.out)
       replace r_t2 := gb_rowIs r_t2 gk n_c
       replace f_b0 := HF_b0.out.below Bw5 (Nat.le_refl _)
       rw [← HCB.out] at o_d
       have f_d := o_d.bs
       clear Bw4 gk o_d o_c)
    | (have hgo := Bw5; clear hgo
       go_at_call 38
       refine (strict_yes _ l0 _ Y _ f_d rfl HL.out HYv.out HY.out).mono ?_
       rintro e w7 ⟨rfl, kk⟩
       replace r_t2 := zrb r_t2 kk
       replace f_b0 := zfb f_b0 kk
       replace f_d := zfb f_d kk
       have Bw6 := zbt HGS Bw5 kk
       clear Bw5 kk)
    | (have hgo := Bw6; clear hgo
       refine wpList_alloc_row rfl 50 rfl 4 (u64f fun _ => 0) zeroE ?_
       intro b_t5 w11 lk r_t5 kk
       have n_t2_t5 := zrn r_t2 lk
       have l_t5 := zrl HGS Bw6 lk
       have a_b0_t5 := Bs.away f_b0 lk
       have a_d_t5 := Bs.away f_d lk
       replace r_t2 := zrb r_t2 kk
       replace f_b0 := zfb f_b0 kk
       replace f_d := zfb f_d kk
       have Bw7 := zbt HGS Bw6 kk
       clear Bw6 kk lk)
    | (have hgo := Bw7; clear hgo
       refine wpList_store_as rfl 50 (.tmp 5) (.tmp 24) rfl 4 (ewF Y) arrE r_t5 rfl rfl (by omega) (fun _ _ => rfl) (fun i hi => putN_whole hi) ?_
       intro w12 q gk
       replace r_t2 := gb_rowIs r_t2 gk n_t2_t5
       replace r_t5 := q
       have Bw8 := zbg HGS Bw7 gk l_t5
       replace f_b0 := gb_bs f_b0 gk a_b0_t5
       replace f_d := gb_bs f_d gk a_d_t5
       clear Bw7 gk q)
    | (have hgo := Bw8; clear hgo
       refine wpList_load_cat rfl (.tmp 30) rfl (HC31.out _ Bw8) rfl ?_
       have Bw9 := Bw8
       clear Bw8)
    | (have hgo := Bw9; clear hgo
       refine wpList_load_as rfl 50 (.tmp 5) rfl 4 (ewF Y) arrE r_t5 rfl (by omega) (fun i hi => by rw [Nat.zero_add]) ?_
       have Bw10 := Bw9
       clear Bw9)
    | (have hgo := Bw10; clear hgo
       go_at_call 39
       refine (HRT.out _).mono ?_
       rintro e w21 ⟨rfl, kk⟩
       replace r_t2 := zrb r_t2 kk
       replace r_t5 := zrb r_t5 kk
       replace f_b0 := zfb f_b0 kk
       replace f_d := zfb f_d kk
       have Bw11 := zbt HGS Bw10 kk
       clear Bw10 kk)
    | (have hgo := Bw11; clear hgo
       refine wpList_alloc_row rfl 50 rfl 4 (u64f fun _ => 0) zeroE ?_
       intro b_t8 w25 lk r_t8 kk
       have n_t2_t8 := zrn r_t2 lk
       have n_t5_t8 := zrn r_t5 lk
       have l_t8 := zrl HGS Bw11 lk
       have a_b0_t8 := Bs.away f_b0 lk
       have a_d_t8 := Bs.away f_d lk
       replace r_t2 := zrb r_t2 kk
       replace r_t5 := zrb r_t5 kk
       replace f_b0 := zfb f_b0 kk
       replace f_d := zfb f_d kk
       have Bw12 := zbt HGS Bw11 kk
       clear Bw11 kk lk)
    | (have hgo := Bw12; clear hgo
       refine wpList_store_as rfl 50 (.tmp 8) (.tmp 37) rfl 4 (ewF x) arrE r_t8 rfl rfl (by omega) (fun _ _ => rfl) (fun i hi => putN_whole hi) ?_
       intro w26 q gk
       replace r_t2 := gb_rowIs r_t2 gk n_t2_t8
       replace r_t5 := gb_rowIs r_t5 gk n_t5_t8
       replace r_t8 := q
       have Bw13 := zbg HGS Bw12 gk l_t8
       replace f_b0 := gb_bs f_b0 gk a_b0_t8
       replace f_d := gb_bs f_d gk a_d_t8
       clear Bw12 gk q))
  clear f_d f_b0
  go_wp2
  have Bw14 := Bw13.drew
  replace r_t2 := World.rowIs.drew r_t2
  replace r_t5 := World.rowIs.drew r_t5
  replace r_t8 := World.rowIs.drew r_t8
  clear Bw13
  refine zpo [b_t2] (.rd 0 (.rd 1 (.rd 3 (.rd 5 .done)))) #[true, true, false, true, false, true, false, false, false, false] [2, 4, 6, 7, 8, 9] [some 52, some 54, some 56, some 57, none, some 3] [[], [0], [1], [1, 2], [0, 1, 2, 3], [0, 1, 2, 3, 4]] [(0, []), (1, []), (2, [1]), (3, []), (4, [0, 2, 3, 2]), (5, []), (6, [4]), (7, [4, 5, 6]), (8, [7, 6, 0, 1, 2, 3, 4, 5, 6, 7]), (9, [8, 0, 1, 2, 3, 4, 5, 6, 7, 8])] 43 ?_
  refine zmv (.bool false) rfl rfl rfl rfl rfl ?_
  simp only [Act.put, zA, zB, zC]
  refine zld (ewF x) arrE r_t8 (cont1 (Ne.symm n_t2_t8)) (fun i hi => by rw [Nat.zero_add]) rfl rfl rfl rfl rfl (by omega) ?_
  refine zld (ewF x) arrE r_t8 (cont1 (Ne.symm n_t2_t8)) (fun i hi => by rw [Nat.zero_add]) rfl rfl rfl rfl rfl (by omega) ?_
  refine zld (ewF Y) arrE r_t5 (cont1 (Ne.symm n_t2_t5)) (fun i hi => by rw [Nat.zero_add]) rfl rfl rfl rfl rfl (by omega) ?_
  simp only [Act.put, zA, zB, zC]
  refine lintz_leaf ?_
  refine po_start [.val (.agg (arrOf 4 (ewF (oppP x)))), .val (.agg (arrOf 4 (ewF x))), .val (.agg (arrOf 4 (ewF 1))), .val (.agg (arrOf 12 (qF x Y 1))), .nil, .val ((.int .i64 0))] [⟨b_t2, 52, 12, (u64f fun _ => 0), 4, (qF x Y 1)⟩] (fun i hi => by obtain rfl : i = 0 := by { have h9 : i < 1 := hi; omega }; exact r_t2) (fun HWF m gz wa p az hp hm hmp hcl hdn hE hJ hS hO => ?_) (fun gz wa hE hJ => ?_)
  · rcases (show p = 0 ∨ p = 1 ∨ p = 2 ∨ p = 3 ∨ p = 4 ∨ p = 5 by have h9 : p < 6 := hp; omega) with rfl | rfl | rfl | rfl | rfl | rfl
    · have e51 : az.eval (.tmp 51) = .agg (arrOf 4 (ewF x)) := hO 51 rfl
      exact po_k HWF hJ hE (neg_any x _ Hx.out) rfl rfl rfl rfl rfl rfl (ar1 e51)
    · have e50 : az.eval (.tmp 50) = .bool false := hO 50 rfl
      have e53 : az.eval (.tmp 53) = .agg (arrOf 4 (ewF x)) := hO 53 rfl
      exact po_k HWF hJ hE (pick_to false (oppP x) x _) rfl rfl rfl rfl rfl rfl (ar3 e50 (po_e hS hdn hJ 0 52 rfl rfl rfl rfl) e53)
    · exact po_k HWF hJ hE (small_any 1 _ (by decide)) rfl rfl rfl rfl rfl rfl (ar1 rfl)
    · have e54 := po_e hS hdn hJ 1 54 rfl rfl rfl rfl
      have e55 : az.eval (.tmp 55) = .agg (arrOf 4 (ewF Y)) := hO 55 rfl
      have e56 := po_e hS hdn hJ 2 56 rfl rfl rfl rfl
      exact po_p _ HWF hJ hE rfl rfl rfl rfl rfl rfl rfl (exec_build_as _ _ _ (by simp only [List.map_toArray, List.map_cons, List.map_nil, e54, e55, e56]; exact builtQ _ _ _))
    · exact po_storeOld 0 (.tmp 2) (.tmp 57) 52 b_t2 12 _ (by rw [hm]; exact hp) hmp hJ rfl (show 0 < 1 by decide) rfl rfl rfl rfl rfl (World.rowIs.lt r_t2) (by simp) (by kernel_rfl) po_ne1 hE rfl rfl rfl rfl rfl (hO 2 rfl) (po_e hS hdn hJ 3 57 rfl rfl rfl rfl) arrQ (fun j _ => qF_one _ _ _ j)
    · exact po_p _ HWF hJ hE rfl rfl rfl rfl rfl rfl rfl (x_assign rfl)
  · rw [putO_true _ _ _ _ _ rfl]
    simp only [putA, Nat.zero_add, Nat.reduceAdd]
    rw [hJ.tt 0 rfl, hJ.tt 1 rfl, hJ.tt 2 rfl, hJ.tt 3 rfl, hJ.tt 5 rfl]
    simp only [Act.put, zA, zB, zC]
    refine po_end ?_
    replace r_t2 : wa.rowIs b_t2 52 12 (qF x Y 1) := hJ.old 0 (show 0 < 1 by decide) (show 4 < 6 by decide)
    replace r_t5 := Keep.row hE r_t5 (cont1 (Ne.symm n_t2_t5))
    replace r_t8 := Keep.row hE r_t8 (cont1 (Ne.symm n_t2_t8))
    have Bw15 := hE.below Bw14 (HGS.out _ Bw14) (keep_all1 l_t2)
    clear Bw14 hE hJ 
    go_wp2
    exact ret_cell_as_tmp _ rfl arrQ r_t2 rfl rfl (by omega) (fun _ _ => rfl) rfl ⟨by rw [HYv.out]; rfl, Bw15⟩
set_option maxHeartbeats 4000000 in
set_option maxRecDepth 10000 in
theorem qDecode_6 (v0 : Value) (l0 : List UInt8) (w : World) (h0 : Bs w v0 l0) (hl : l0.length = 32) (hY : numL l0 32 % top < p25) (x : Nat) (hx : decX (numL l0 32 % top) = some x) (ho : numL l0 32 / top = 1) (hx0 : x ≠ 0) : Calls Try.prog 21 #[v0] w fun e w' => e = .returned (.tuple #[.agg (arrOf 12 (qF (oppP x) (numL l0 32 % top) 1)), .int .i64 0]) ∧ Below w.heap.size w w' := by
  have HYL := Lib.hid hY
  obtain ⟨gb, off, c0, rfl, y0, z0, hgb, hcells⟩ := h0.open_n hl (by decide)
  have HL := Lib.hid hl
  have HF0 := Lib.hid h0
  have f_b0 := h0
  obtain ⟨q, hq⟩ := nat_var ((l0.getD 31 0).toNat)
  have hql : q < 256 := by rw [hq]; exact UInt8.toNat_lt _
  have a1 := notand128 q hql
  obtain ⟨u, hu⟩ := nat_var (q % 128)
  rw [← hu] at a1
  have HUL : Hid (u < 256) := Lib.hid (by omega)
  have HQL := Lib.hid hql
  have HSG : Hid (numL l0 32 / top = q / 128) := Lib.hid (by rw [(numL_cut l0 hl).2, ← hq])
  have HCB : Hid (cutB l0 = l0.set 31 (UInt8.ofNat u)) := Lib.hid (by rw [hu, hq]; rfl)
  have HQ : Hid (∀ h : 31 < l0.length, (l0[31]'h).toNat = q) := Lib.hid fun h => by rw [hq, List.getD_eq_getElem?_getD, List.getElem?_eq_getElem h]; rfl
  have HC31 : Hid (∀ W, Below w.heap.size w W → W.cell? ⟨gb, off + 31, none⟩ = some (.int .u8 (q : Int))) := Lib.hid fun W hW => (bs_cell (h0.below hW (Nat.le_refl _)) 31 (by rw [hl]; decide)).trans (by rw [HQ.out])
  obtain ⟨Y, hYv⟩ := nat_var (numL l0 32 % top)
  have HYv : Hid (numL l0 32 % top = Y) := Lib.hid hYv.symm
  have HY : Hid (Y < p25) := Lib.hid (by rw [hYv]; exact HYL.out)
  rw [← hYv] at hx
  have HRT := Lib.hid fun w => bes_some Y x w HY.out hx
  have Hx : Hid (x < p25) := Lib.hid (decX_some HY.out hx).1.1
  have a2 : bits .and .u8 (q : Int) 128 = 128 := by have h := and128 q hql; rw [← HSG.out, ho] at h; exact h
  have HX0 := Lib.hid (decide_eq_false hx0)
  clear hx0
  clear ho
  clear hx hYv
  clear hq hql hu hcells h0 hl hY
  have Bw0 := Below.refl w.heap.size w
  have HGS : Hid (∀ wq : World, Below w.heap.size w wq → w.heap.size ≤ wq.heap.size) := Lib.hid fun wq h => h.size
  have HF_b0 := HF0
  go_enter Try.func21, Try.ntmps21
  go_wp2_with (first
    | (have hgo := Bw0; clear hgo
       refine wpList_alloc_row rfl 52 rfl 12 (u64f fun _ => 0) zeroQ ?_
       intro b_t2 w1 lk r_t2 kk
       have l_t2 := zrl HGS Bw0 lk
       have a_b0_t2 := Bs.away f_b0 lk
       replace f_b0 := zfb f_b0 kk
       have Bw1 := zbt HGS Bw0 kk
       clear Bw0 kk lk)
    | (have hgo := Bw1; clear hgo
       refine wpList_rows1 rfl (.tmp 13) rfl f_b0 rfl ?_
       intro v_r14 w3 F_r14 kk
       replace r_t2 := zrb r_t2 kk
       replace f_b0 := zfb f_b0 kk
       have Bw2 := zbt HGS Bw1 kk
       clear Bw1 kk)
    | (have hgo := Bw2; clear hgo
       go_at_call 33
       refine (cat_any _ _ _ F_r14 (by rw [List.flatten_singleton, HL.out]; decide)).mono ?_
       rintro e w4 ⟨v_c, rfl, o_c, kk⟩
       rw [List.flatten_singleton] at o_c
       clear F_r14
       obtain ⟨g, cap, hv, hg, hgs, _, _⟩ := o_c.open_cons (by rw [HL.out]; decide)
       rw [HL.out] at hv
       subst hv
       have n_c : b_t2 ≠ g := Nat.ne_of_lt (Nat.lt_of_lt_of_le (World.rowIs.lt r_t2) hg)
       have HCAP : Hid (32 ≤ cap) := Lib.hid (owns_cap o_c)
       have HGB : Hid (w.heap.size ≤ g) := Lib.hid (Nat.le_trans (HGS.out _ Bw2) hg)
       replace o_c := o_c.lower (HGS.out _ Bw2)
       clear hg hgs
       replace r_t2 := zrb r_t2 kk
       replace f_b0 := zfb f_b0 kk
       have Bw3 := zbt HGS Bw2 kk
       clear Bw2 kk)
    | (have hgo := Bw3; clear hgo
       refine wpList_load_byte rfl (.tmp 17) rfl 31 q o_c HL.out.symm (by rw [HL.out]; decide) rfl (HQ.out _) ?_
       have Bw4 := Bw3
       clear Bw3)
    | (have hgo := Bw4; clear hgo
       refine wpList_store_byte rfl (.tmp 20) (.tmp 19) rfl 31 u o_c HL.out.symm HCAP.out (by rw [HL.out]; decide) rfl rfl HUL.out ?_
       intro w5 o_d gk
       have Bw5 := Bw4.grown gk (HGS.out _ Bw4) (by intro k hk; cases hk; exact HGB.out)
       replace r_t2 := gb_rowIs r_t2 gk n_c
       replace f_b0 := HF_b0.out.below Bw5 (Nat.le_refl _)
       rw [← HCB.out] at o_d
       have f_d := o_d.bs
       clear Bw4 gk o_d o_c)
    | (have hgo := Bw5; clear hgo
       go_at_call 38
       refine (strict_yes _ l0 _ Y _ f_d rfl HL.out HYv.out HY.out).mono ?_
       rintro e w7 ⟨rfl, kk⟩
       replace r_t2 := zrb r_t2 kk
       replace f_b0 := zfb f_b0 kk
       replace f_d := zfb f_d kk
       have Bw6 := zbt HGS Bw5 kk
       clear Bw5 kk)
    | (have hgo := Bw6; clear hgo
       refine wpList_alloc_row rfl 50 rfl 4 (u64f fun _ => 0) zeroE ?_
       intro b_t5 w11 lk r_t5 kk
       have n_t2_t5 := zrn r_t2 lk
       have l_t5 := zrl HGS Bw6 lk
       have a_b0_t5 := Bs.away f_b0 lk
       have a_d_t5 := Bs.away f_d lk
       replace r_t2 := zrb r_t2 kk
       replace f_b0 := zfb f_b0 kk
       replace f_d := zfb f_d kk
       have Bw7 := zbt HGS Bw6 kk
       clear Bw6 kk lk)
    | (have hgo := Bw7; clear hgo
       refine wpList_store_as rfl 50 (.tmp 5) (.tmp 24) rfl 4 (ewF Y) arrE r_t5 rfl rfl (by omega) (fun _ _ => rfl) (fun i hi => putN_whole hi) ?_
       intro w12 q gk
       replace r_t2 := gb_rowIs r_t2 gk n_t2_t5
       replace r_t5 := q
       have Bw8 := zbg HGS Bw7 gk l_t5
       replace f_b0 := gb_bs f_b0 gk a_b0_t5
       replace f_d := gb_bs f_d gk a_d_t5
       clear Bw7 gk q)
    | (have hgo := Bw8; clear hgo
       refine wpList_load_cat rfl (.tmp 30) rfl (HC31.out _ Bw8) rfl ?_
       have Bw9 := Bw8
       clear Bw8)
    | (have hgo := Bw9; clear hgo
       refine wpList_load_as rfl 50 (.tmp 5) rfl 4 (ewF Y) arrE r_t5 rfl (by omega) (fun i hi => by rw [Nat.zero_add]) ?_
       have Bw10 := Bw9
       clear Bw9)
    | (have hgo := Bw10; clear hgo
       go_at_call 39
       refine (HRT.out _).mono ?_
       rintro e w21 ⟨rfl, kk⟩
       replace r_t2 := zrb r_t2 kk
       replace r_t5 := zrb r_t5 kk
       replace f_b0 := zfb f_b0 kk
       replace f_d := zfb f_d kk
       have Bw11 := zbt HGS Bw10 kk
       clear Bw10 kk)
    | (have hgo := Bw11; clear hgo
       refine wpList_alloc_row rfl 50 rfl 4 (u64f fun _ => 0) zeroE ?_
       intro b_t8 w25 lk r_t8 kk
       have n_t2_t8 := zrn r_t2 lk
       have n_t5_t8 := zrn r_t5 lk
       have l_t8 := zrl HGS Bw11 lk
       have a_b0_t8 := Bs.away f_b0 lk
       have a_d_t8 := Bs.away f_d lk
       replace r_t2 := zrb r_t2 kk
       replace r_t5 := zrb r_t5 kk
       replace f_b0 := zfb f_b0 kk
       replace f_d := zfb f_d kk
       have Bw12 := zbt HGS Bw11 kk
       clear Bw11 kk lk)
    | (have hgo := Bw12; clear hgo
       refine wpList_store_as rfl 50 (.tmp 8) (.tmp 37) rfl 4 (ewF x) arrE r_t8 rfl rfl (by omega) (fun _ _ => rfl) (fun i hi => putN_whole hi) ?_
       intro w26 q gk
       replace r_t2 := gb_rowIs r_t2 gk n_t2_t8
       replace r_t5 := gb_rowIs r_t5 gk n_t5_t8
       replace r_t8 := q
       have Bw13 := zbg HGS Bw12 gk l_t8
       replace f_b0 := gb_bs f_b0 gk a_b0_t8
       replace f_d := gb_bs f_d gk a_d_t8
       clear Bw12 gk q)
    | (have hgo := Bw13; clear hgo
       refine wpList_load_asg rfl 50 (.tmp 8) rfl 4 (ewF x) arrE r_t8 rfl (by omega) (fun i hi => by rw [Nat.zero_add]) ?_
       have Bw14 := Bw13
       clear Bw13)
    | (have hgo := Bw14; clear hgo
       refine wpList_value_given rfl (.agg (arrOf 4 (ewF 0))) (by rw [exec_mkOp]; exact exec_zeroE _ _) ?_
       have Bw15 := Bw14
       clear Bw14)
    | (have hgo := Bw15; clear hgo
       go_at_call 40
       refine (sameB_any x 0 false _ Hx.out p25_pos HX0.out).mono ?_
       rintro e w35 ⟨rfl, kk⟩
       replace r_t2 := zrb r_t2 kk
       replace r_t5 := zrb r_t5 kk
       replace r_t8 := zrb r_t8 kk
       replace f_b0 := zfb f_b0 kk
       replace f_d := zfb f_d kk
       have Bw16 := zbt HGS Bw15 kk
       clear Bw15 kk))
  clear f_d f_b0
  go_wp2
  have Bw17 := Bw16.drew
  replace r_t2 := World.rowIs.drew r_t2
  replace r_t5 := World.rowIs.drew r_t5
  replace r_t8 := World.rowIs.drew r_t8
  clear Bw16
  refine zpo [b_t2] (.rd 0 (.rd 1 (.rd 3 (.rd 5 .done)))) #[true, true, false, true, false, true, false, false, false, false] [2, 4, 6, 7, 8, 9] [some 52, some 54, some 56, some 57, none, some 3] [[], [0], [1], [1, 2], [0, 1, 2, 3], [0, 1, 2, 3, 4]] [(0, []), (1, []), (2, [1]), (3, []), (4, [0, 2, 3, 2]), (5, []), (6, [4]), (7, [4, 5, 6]), (8, [7, 6, 0, 1, 2, 3, 4, 5, 6, 7]), (9, [8, 0, 1, 2, 3, 4, 5, 6, 7, 8])] 43 ?_
  refine zmv (.bool true) rfl rfl rfl rfl rfl ?_
  simp only [Act.put, zA, zB, zC]
  refine zld (ewF x) arrE r_t8 (cont1 (Ne.symm n_t2_t8)) (fun i hi => by rw [Nat.zero_add]) rfl rfl rfl rfl rfl (by omega) ?_
  refine zld (ewF x) arrE r_t8 (cont1 (Ne.symm n_t2_t8)) (fun i hi => by rw [Nat.zero_add]) rfl rfl rfl rfl rfl (by omega) ?_
  refine zld (ewF Y) arrE r_t5 (cont1 (Ne.symm n_t2_t5)) (fun i hi => by rw [Nat.zero_add]) rfl rfl rfl rfl rfl (by omega) ?_
  simp only [Act.put, zA, zB, zC]
  refine lintz_leaf ?_
  refine po_start [.val (.agg (arrOf 4 (ewF (oppP x)))), .val (.agg (arrOf 4 (ewF (oppP x)))), .val (.agg (arrOf 4 (ewF 1))), .val (.agg (arrOf 12 (qF (oppP x) Y 1))), .nil, .val ((.int .i64 0))] [⟨b_t2, 52, 12, (u64f fun _ => 0), 4, (qF (oppP x) Y 1)⟩] (fun i hi => by obtain rfl : i = 0 := by { have h9 : i < 1 := hi; omega }; exact r_t2) (fun HWF m gz wa p az hp hm hmp hcl hdn hE hJ hS hO => ?_) (fun gz wa hE hJ => ?_)
  · rcases (show p = 0 ∨ p = 1 ∨ p = 2 ∨ p = 3 ∨ p = 4 ∨ p = 5 by have h9 : p < 6 := hp; omega) with rfl | rfl | rfl | rfl | rfl | rfl
    · have e51 : az.eval (.tmp 51) = .agg (arrOf 4 (ewF x)) := hO 51 rfl
      exact po_k HWF hJ hE (neg_any x _ Hx.out) rfl rfl rfl rfl rfl rfl (ar1 e51)
    · have e50 : az.eval (.tmp 50) = .bool true := hO 50 rfl
      have e53 : az.eval (.tmp 53) = .agg (arrOf 4 (ewF x)) := hO 53 rfl
      exact po_k HWF hJ hE (pick_to true (oppP x) x _) rfl rfl rfl rfl rfl rfl (ar3 e50 (po_e hS hdn hJ 0 52 rfl rfl rfl rfl) e53)
    · exact po_k HWF hJ hE (small_any 1 _ (by decide)) rfl rfl rfl rfl rfl rfl (ar1 rfl)
    · have e54 := po_e hS hdn hJ 1 54 rfl rfl rfl rfl
      have e55 : az.eval (.tmp 55) = .agg (arrOf 4 (ewF Y)) := hO 55 rfl
      have e56 := po_e hS hdn hJ 2 56 rfl rfl rfl rfl
      exact po_p _ HWF hJ hE rfl rfl rfl rfl rfl rfl rfl (exec_build_as _ _ _ (by simp only [List.map_toArray, List.map_cons, List.map_nil, e54, e55, e56]; exact builtQ _ _ _))
    · exact po_storeOld 0 (.tmp 2) (.tmp 57) 52 b_t2 12 _ (by rw [hm]; exact hp) hmp hJ rfl (show 0 < 1 by decide) rfl rfl rfl rfl rfl (World.rowIs.lt r_t2) (by simp) (by kernel_rfl) po_ne1 hE rfl rfl rfl rfl rfl (hO 2 rfl) (po_e hS hdn hJ 3 57 rfl rfl rfl rfl) arrQ (fun j _ => qF_one _ _ _ j)
    · exact po_p _ HWF hJ hE rfl rfl rfl rfl rfl rfl rfl (x_assign rfl)
  · rw [putO_true _ _ _ _ _ rfl]
    simp only [putA, Nat.zero_add, Nat.reduceAdd]
    rw [hJ.tt 0 rfl, hJ.tt 1 rfl, hJ.tt 2 rfl, hJ.tt 3 rfl, hJ.tt 5 rfl]
    simp only [Act.put, zA, zB, zC]
    refine po_end ?_
    replace r_t2 : wa.rowIs b_t2 52 12 (qF (oppP x) Y 1) := hJ.old 0 (show 0 < 1 by decide) (show 4 < 6 by decide)
    replace r_t5 := Keep.row hE r_t5 (cont1 (Ne.symm n_t2_t5))
    replace r_t8 := Keep.row hE r_t8 (cont1 (Ne.symm n_t2_t8))
    have Bw18 := hE.below Bw17 (HGS.out _ Bw17) (keep_all1 l_t2)
    clear Bw17 hE hJ 
    go_wp2
    exact ret_cell_as_tmp _ rfl arrQ r_t2 rfl rfl (by omega) (fun _ _ => rfl) rfl ⟨by rw [HYv.out]; rfl, Bw18⟩
theorem qTDecode_any (v : Value) (l : List UInt8) (w : World) (h : Bs w v l) : Calls Try.prog 21 #[v] w fun e w' => e = .returned (.tuple #[.agg (arrOf 12 (qT (eT l))), .int .i64 (decE l)]) ∧ Below w.heap.size w w' := by
  by_cases hl : l.length = 32
  · by_cases hY : numL l 32 % top < p25
    · cases hx : decX (numL l 32 % top) with
      | none =>
        have e : decN l = none := by unfold decN; rw [if_pos ⟨hl, hY⟩, hx]; rfl
        unfold eT decE
        rw [e]
        exact qDecode_3 v l w h hl hY hx
      | some x =>
        have hs : numL l 32 / top < 2 := by
          rw [(numL_cut l hl).2]
          exact Nat.div_lt_of_lt_mul (UInt8.toNat_lt _)
        by_cases ho : numL l 32 / top = 1
        · by_cases hx0 : x = 0
          · have e : decN l = none := by unfold decN; rw [if_pos ⟨hl, hY⟩, hx, Option.bind_some, if_pos ⟨ho, hx0⟩]
            unfold eT decE
            rw [e]
            exact qDecode_4 v l w h hl hY x hx ho hx0
          · have e : decN l = some (oppP x, numL l 32 % top) := by unfold decN; rw [if_pos ⟨hl, hY⟩, hx, Option.bind_some, if_neg (fun k => hx0 k.2), if_pos ho]
            unfold eT decE
            rw [e]
            exact qDecode_6 v l w h hl hY x hx ho hx0
        · have ho0 : numL l 32 / top = 0 := (show ∀ s : Nat, s < 2 → s ≠ 1 → s = 0 by omega) _ hs ho
          have e : decN l = some (x, numL l 32 % top) := by unfold decN; rw [if_pos ⟨hl, hY⟩, hx, Option.bind_some, if_neg (fun k => ho k.1), if_neg ho]
          unfold eT decE
          rw [e]
          exact qDecode_5 v l w h hl hY x hx ho0
    · have e : decN l = none := by unfold decN; rw [if_neg (fun k => hY k.2)]
      unfold eT decE
      rw [e]
      exact qDecode_2 v l w h hl hY
  · have e : decN l = none := by unfold decN; rw [if_neg (fun k => hl k.1)]
    unfold eT decE
    rw [e]
    exact qDecode_1 v l w h hl
theorem qTEncode_any (t : Nat × Nat × Nat) (w : World) (h : LtT t) : Calls Try.prog 34 #[.agg (arrOf 12 (qT t))] w fun e w' => ∃ v, e = .returned v ∧ Owns w' w.heap.size v (litB (encQ t) 32) ∧ Below w.heap.size w w' := qEncode_any t.1 t.2.1 t.2.2 w h.1 h.2.1 h.2.2
end Go.Proofs.Ytonhpmaiagbheaa

/- What the laws of chapter 7 share: is, awake. -/
namespace Go.Proofs.Ytonhpmaiagbheaa
open Go.RowKit Go.Deep
set_option linter.unusedSimpArgs false
set_option linter.unusedVariables false

theorem sWide_to (v : Value) (l : List UInt8) (w : World) (hv : Bs w v l) (V : Nat) (h : numL l 64 % ordL = V) : Calls Try.prog 45 #[v] w fun e w' => e = .returned (.agg (arrOf 4 (ewF V))) ∧ Below w.heap.size w w' := by
  rw [← h]
  exact sWide_any v l w hv
end Go.Proofs.Ytonhpmaiagbheaa

/- Eight words: sha2's all and plus; the first states and the rounds' numbers, the program's and the document's. -/
set_option linter.unusedSimpArgs false
set_option linter.unusedVariables false
namespace Go.Proofs.Ytonhpmaiagbheaa
open Go.RowKit Go.Deep

def w32 (s : Nat → BitVec 32) : Nat → Value := fun i => .int .u32 ((s i).toNat : Int)
def w64 (s : Nat → BitVec 64) : Nat → Value := fun i => .int .u64 ((s i).toNat : Int)
theorem zero8_64 : (Try.prog.info? 84).map (fun i => i.zero) = some (some (.agg (arrOf 8 fun _ => .int .u64 0))) := by kernel_rfl
theorem arr8_64 : IsArr Try.prog 84 8 := ⟨by kernel_rfl, by kernel_rfl⟩

set_option maxHeartbeats 400000 in
theorem all64_any (s : Nat → BitVec 64) (w : World) :
    Calls Try.prog 76 #[.agg (arrOf 8 (w64 s))] w fun e w' => e = .returned (.tuple #[w64 s 0, w64 s 1, w64 s 2, w64 s 3, w64 s 4, w64 s 5, w64 s 6, w64 s 7]) ∧ Below w.heap.size w w' := by
  have hrow := World.rowIs_alloc w (arrOf 8 (w64 s)) 84 (w64 s) (fun i hi => arrOf_get 8 _ i (by rw [arrOf_size] at hi; exact hi))
  rw [arrOf_size] at hrow
  have h0 := hrow.cell (i := 0) (by omega)
  have h1 := hrow.cell (i := 1) (by omega)
  have h2 := hrow.cell (i := 2) (by omega)
  have h3 := hrow.cell (i := 3) (by omega)
  have h4 := hrow.cell (i := 4) (by omega)
  have h5 := hrow.cell (i := 5) (by omega)
  have h6 := hrow.cell (i := 6) (by omega)
  have h7 := hrow.cell (i := 7) (by omega)
  have hb : Below w.heap.size w (w.alloc (.cells (arrOf 8 (w64 s)) 84)) := (Below.refl _ _).alloc (Nat.le_refl _) _
  clear hrow
  go_enter Try.func76, Try.ntmps76
  go_wp2
  go_quiet (fail)
  go_wp2
  refine bodyPost_ret (v := .tuple #[w64 s 0, w64 s 1, w64 s 2, w64 s 3, w64 s 4, w64 s 5, w64 s 6, w64 s 7]) (by simp [results, Try.results76, go_sem]) rfl ⟨rfl, below_drewN hb _⟩

set_option maxHeartbeats 400000 in
theorem plus64_any (s t : Nat → BitVec 64) (w : World) :
    Calls Try.prog 81 #[.agg (arrOf 8 (w64 s)), .agg (arrOf 8 (w64 t))] w fun e w' => e = .returned (.agg (arrOf 8 (w64 fun i => s i + t i))) ∧ Below w.heap.size w w' := by
  go_enter Try.func81, Try.ntmps81
  have hA := ((rowIs_arr w 8 (w64 s) 84).alloc (.cells (arrOf 8 (w64 t)) 84)).alloc (.cells (arrOf 8 fun _ => .int .u64 0) 84)
  have hB := (rowIs_arr (w.alloc (.cells (arrOf 8 (w64 s)) 84)) 8 (w64 t) 84).alloc (.cells (arrOf 8 fun _ => .int .u64 0) 84)
  have hC := rowIs_arr ((w.alloc (.cells (arrOf 8 (w64 s)) 84)).alloc (.cells (arrOf 8 (w64 t)) 84)) 8 (fun _ => .int .u64 0) 84
  have hb : Below w.heap.size w (((w.alloc (.cells (arrOf 8 (w64 s)) 84)).alloc (.cells (arrOf 8 (w64 t)) 84)).alloc (.cells (arrOf 8 fun _ => .int .u64 0) 84)) :=
    (((Below.refl _ _).alloc (Nat.le_refl _) _).alloc (by simp only [World.size_alloc]; omega) _).alloc (by simp only [World.size_alloc]; omega) _
  simp only [World.size_alloc] at hA hB hC
  go_wp2_with (first
    | refine wpList_alloc_arr rfl 84 rfl (arrOf 8 fun _ => .int .u64 0) zero8_64 ?_
    | refine wpList_load_arr rfl 84 (.tmp 3) rfl 8 arr8_64 hB rfl (by omega) ?_)
  go_loopw [8] (fun i wr => ∃ j : Nat, j ≤ 8 ∧ i = .int .i64 j ∧ wr.rowIs w.heap.size 84 8 (fun i => .int .u64 ((if i < j then s i + t i else s i).toNat : Int)) ∧
    wr.rowIs (w.heap.size + 1 + 1) 84 8 (fun _ => .int .u64 0) ∧ Below w.heap.size w wr) (fun i _ => 8 - (intOf i).toNat)
  case atStart => exact ⟨0, Nat.zero_le _, rfl, hA.congr fun i _ => rfl, hC, hb⟩
  case round =>
    obtain ⟨j, hj, rfl, hrow, hres, hbel⟩ := hrel
    clear hA hB hC hb
    by_cases hlt : j < 8
    · have hcell := hrow.cell hlt
      rw [if_neg (by omega)] at hcell
      have hfr := hrow.frozen j
      have hw : w64 t j = .int .u64 ((t j).toNat : Int) := rfl
      go_wp2_with (refine wpList_index_arr rfl 84 47 (.tmp 7) (.tmp 8) rfl 8 Try.underlying84 _ Try.underlying47 rfl (by kernel_rfl) rfl rfl hlt ?_)
      go_roundw
      case rel =>
        refine ⟨j + 1, by omega, by go_num, (hrow.set j _).congr fun i hi => ?_, hres.setOther (by show w.heap.size + 1 + 1 ≠ w.heap.size; omega) _, hbel.setCell (Nat.le_refl _) _⟩
        show (if i = j then _ else _) = _
        by_cases e : i = j
        · subst e
          rw [if_pos rfl, if_pos (by omega)]
          exact congrArg (Value.int .u64) (add64 _ _)
        · rw [if_neg e]
          by_cases h2 : i < j
          · rw [if_pos h2, if_pos (by omega)]
          · rw [if_neg h2, if_neg (by omega)]
      case measure => simp [intOf]; omega
    · obtain rfl : j = 8 := by omega
      have hrow8 : wr.rowIs w.heap.size 84 8 (w64 fun i => s i + t i) := hrow.congr fun i hi => by rw [if_pos hi]; rfl
      go_wp2_with (first
        | refine wpList_load_arr rfl 84 (.tmp 2) rfl 8 arr8_64 hrow8 rfl (by omega) ?_
        | (refine wpList_store_arr rfl 84 (.tmp 4) (.tmp 19) rfl 8 arr8_64 hres rfl rfl (by omega) (fun _ _ => rfl) ?_; intro w2 hr2 hg2 hs2))
      refine ret_cell_arr rfl arr8_64 hr2 rfl (by omega) rfl ⟨?_, hbel.grown hg2 hbel.size (by intro k hk; cases hk; omega)⟩
      congr 2
end Go.Proofs.Ytonhpmaiagbheaa

/- The numbers of the standard: the rounds' and the first states; the program's tables of them, and the document's. -/
set_option linter.unusedSimpArgs false
set_option linter.unusedVariables false
namespace Go.Proofs.Ytonhpmaiagbheaa
open Go.RowKit Go.Deep

def kNums : List Nat := [0x428a2f98d728ae22, 0x7137449123ef65cd, 0xb5c0fbcfec4d3b2f, 0xe9b5dba58189dbbc, 0x3956c25bf348b538, 0x59f111f1b605d019, 0x923f82a4af194f9b, 0xab1c5ed5da6d8118,
  0xd807aa98a3030242, 0x12835b0145706fbe, 0x243185be4ee4b28c, 0x550c7dc3d5ffb4e2, 0x72be5d74f27b896f, 0x80deb1fe3b1696b1, 0x9bdc06a725c71235, 0xc19bf174cf692694,
  0xe49b69c19ef14ad2, 0xefbe4786384f25e3, 0x0fc19dc68b8cd5b5, 0x240ca1cc77ac9c65, 0x2de92c6f592b0275, 0x4a7484aa6ea6e483, 0x5cb0a9dcbd41fbd4, 0x76f988da831153b5,
  0x983e5152ee66dfab, 0xa831c66d2db43210, 0xb00327c898fb213f, 0xbf597fc7beef0ee4, 0xc6e00bf33da88fc2, 0xd5a79147930aa725, 0x06ca6351e003826f, 0x142929670a0e6e70,
  0x27b70a8546d22ffc, 0x2e1b21385c26c926, 0x4d2c6dfc5ac42aed, 0x53380d139d95b3df, 0x650a73548baf63de, 0x766a0abb3c77b2a8, 0x81c2c92e47edaee6, 0x92722c851482353b,
  0xa2bfe8a14cf10364, 0xa81a664bbc423001, 0xc24b8b70d0f89791, 0xc76c51a30654be30, 0xd192e819d6ef5218, 0xd69906245565a910, 0xf40e35855771202a, 0x106aa07032bbd1b8,
  0x19a4c116b8d2d0c8, 0x1e376c085141ab53, 0x2748774cdf8eeb99, 0x34b0bcb5e19b48a8, 0x391c0cb3c5c95a63, 0x4ed8aa4ae3418acb, 0x5b9cca4f7763e373, 0x682e6ff3d6b2b8a3,
  0x748f82ee5defb2fc, 0x78a5636f43172f60, 0x84c87814a1f0ab72, 0x8cc702081a6439ec, 0x90befffa23631e28, 0xa4506cebde82bde9, 0xbef9a3f7b2c67915, 0xc67178f2e372532b,
  0xca273eceea26619c, 0xd186b8c721c0c207, 0xeada7dd6cde0eb1e, 0xf57d4f7fee6ed178, 0x06f067aa72176fba, 0x0a637dc5a2c898a6, 0x113f9804bef90dae, 0x1b710b35131c471b,
  0x28db77f523047d84, 0x32caab7b40c72493, 0x3c9ebe0a15c9bebc, 0x431d67c49c100d4c, 0x4cc5d4becb3e42b6, 0x597f299cfc657e2a, 0x5fcb6fab3ad6faec, 0x6c44198c4a475817]
def iNums : List Nat := [0x6a09e667f3bcc908, 0xbb67ae8584caa73b, 0x3c6ef372fe94f82b, 0xa54ff53a5f1d36f1, 0x510e527fade682d1, 0x9b05688c2b3e6c1f, 0x1f83d9abfb41bd6b, 0x5be0cd19137e2179]
def K64 (i : Nat) : BitVec 64 := BitVec.ofNat 64 (kNums.getD i 0)
def I64 (i : Nat) : BitVec 64 := BitVec.ofNat 64 (iNums.getD i 0)
def k512 : Kind 64 := { big0 := fun x => tri x 28 34 39, big1 := fun x => tri x 14 18 41, low0 := fun x => sig x 1 8 7, low1 := fun x => sig x 19 61 6, num := K64, rounds := 80, first := S8.of I64, bytes := 8 }

theorem zero80 : (Try.prog.info? 103).map (fun i => i.zero) = some (some (.agg (arrOf 80 fun _ => .int .u64 0))) := by kernel_rfl
theorem arr80 : IsArr Try.prog 103 80 := ⟨by kernel_rfl, by kernel_rfl⟩

set_option maxHeartbeats 400000 in
theorem roots_any (w : World) : Calls Try.prog 75 #[] w fun e w' => e = .returned (.agg (arrOf 80 (w64 K64))) ∧ Below w.heap.size w w' := by
  go_enter Try.func75, Try.ntmps75
  have hres := rowIs_arr w 80 (fun _ => .int .u64 0) 103
  go_wp2_with (first
    | refine wpList_alloc_arr rfl 103 rfl (arrOf 80 fun _ => .int .u64 0) zero80 ?_
    | refine wpList_build_arr rfl 103 _ rfl (arrOf 80 (w64 K64)) (by kernel_rfl) ?_
    | (refine wpList_store_arr rfl 103 (.tmp 0) (.tmp 1) rfl 80 arr80 hres rfl rfl (by omega) (fun _ _ => rfl) ?_; intro w2 hr2 hg2 hs2))
  refine ret_cell_arr rfl arr80 hr2 rfl (by omega) rfl ⟨?_, ((Below.refl _ _).alloc (Nat.le_refl _) _).grown hg2 (by simp) (by intro k hk; cases hk; omega)⟩
  refine congrArg (fun c => Ending.returned (Value.agg c)) (arrOf_congr fun i hi => ?_)
  unfold putN
  rw [if_pos (by omega)]
  simp only [Nat.zero_add, Nat.sub_zero]

set_option maxHeartbeats 400000 in
theorem start512_any (w : World) : Calls Try.prog 54 #[] w fun e w' => e = .returned (.agg (arrOf 8 (w64 I64))) ∧ Below w.heap.size w w' := by
  go_enter Try.func54, Try.ntmps54
  have hres := rowIs_arr w 8 (fun _ => .int .u64 0) 84
  go_wp2_with (first
    | refine wpList_alloc_arr rfl 84 rfl (arrOf 8 fun _ => .int .u64 0) zero8_64 ?_
    | refine wpList_build_arr rfl 84 _ rfl (arrOf 8 (w64 I64)) (by kernel_rfl) ?_
    | (refine wpList_store_arr rfl 84 (.tmp 0) (.tmp 1) rfl 8 arr8_64 hres rfl rfl (by omega) (fun _ _ => rfl) ?_; intro w2 hr2 hg2 hs2))
  refine ret_cell_arr rfl arr8_64 hr2 rfl (by omega) rfl ⟨?_, ((Below.refl _ _).alloc (Nat.le_refl _) _).grown hg2 (by simp) (by intro k hk; cases hk; omega)⟩
  refine congrArg (fun c => Ending.returned (Value.agg c)) (arrOf_congr fun i hi => ?_)
  unfold putN
  rw [if_pos (by omega)]
  simp only [Nat.zero_add, Nat.sub_zero]

end Go.Proofs.Ytonhpmaiagbheaa

/- A block's words: sha2's spread256, spread512. -/
set_option linter.unusedSimpArgs false
set_option linter.unusedVariables false
namespace Go.Proofs.Ytonhpmaiagbheaa
open Go.RowKit Go.Deep

def u8f (blk : List UInt8) : Nat → Value := fun i => .int .u8 ((blk.getD i 0).toNat : Int)
/-- A part of a row, read as bytes. -/
theorem Bs.of_part {w : World} {b m off n cap : Nat} {t : TypeId} {f : Nat → Value} (h : w.rowIs b t m f) (l : List UInt8) (hn : l.length = n) (hm : off + n ≤ m) (hc : n ≤ cap) (hcm : cap ≤ maxLen)
    (hf : ∀ i (hi : i < l.length), f (off + i) = .int .u8 ((l[i]).toNat : Int)) : Bs w (.slice (some ⟨b, off, none⟩) n cap) l := by
  subst hn
  refine ⟨_, cap, rfl, hc, hcm, (fun h => by cases h), fun x hx i hi => ?_⟩
  cases hx
  refine ⟨h.lt, ?_⟩
  rw [add_eq, h.cell (by omega), hf i hi]
theorem numB_w64 (l : List UInt8) : (numB l 8 : Int) = ((BitVec.ofNat 64 (numB l 8)).toNat : Int) := (ofNat64 _ (numB_lt l 8)).symm
theorem wadd64 (a b : BitVec 64) : IntKind.u64.wrap ((a.toNat : Int) + b.toNat) = ((a + b).toNat : Int) := add64 a b
theorem add4_64 (a b c d : BitVec 64) : IntKind.u64.wrap (IntKind.u64.wrap (IntKind.u64.wrap ((a.toNat : Int) + b.toNat) + c.toNat) + d.toNat) = ((a + b + c + d).toNat : Int) := by
  rw [wadd64, wadd64, wadd64]
theorem sig_val64 (x : BitVec 64) (i j k : Nat) : bits .xor .u64 (bits .xor .u64 (rotr x i).toNat (rotr x j).toNat) ((x.toNat : Int) / 2 ^ k) = ((sig x i j k).toNat : Int) := by
  rw [shr32, xor64, xor64]; rfl
theorem zeroR_64 : (Try.prog.info? 103).map (fun i => i.zero) = some (some (.agg (arrOf 80 fun _ => .int .u64 0))) := by kernel_rfl
theorem arrR_64 : IsArr Try.prog 103 80 := ⟨by kernel_rfl, by kernel_rfl⟩
theorem arrB_64 : IsArr Try.prog 86 128 := ⟨by kernel_rfl, by kernel_rfl⟩

set_option maxHeartbeats 1600000 in
theorem spread512_any (blk : List UInt8) (w : World) (hl : blk.length = 128) :
    Calls Try.prog 77 #[.agg (arrOf 128 (u8f blk))] w fun e w' => e = .returned (.agg (arrOf 80 (w64 (k512.sched (k512.word blk))))) ∧ Below w.heap.size w w' := by
  go_enter Try.func77, Try.ntmps77
  have hX := ((rowIs_arr w 128 (u8f blk) 86).alloc (.cells (arrOf 80 fun _ => .int .u64 0) 103)).alloc (.cells (arrOf 80 fun _ => .int .u64 0) 103)
  have hA := (rowIs_arr (w.alloc (.cells (arrOf 128 (u8f blk)) 86)) 80 (fun _ => .int .u64 0) 103).alloc (.cells (arrOf 80 fun _ => .int .u64 0) 103)
  have hB := rowIs_arr ((w.alloc (.cells (arrOf 128 (u8f blk)) 86)).alloc (.cells (arrOf 80 fun _ => .int .u64 0) 103)) 80 (fun _ => .int .u64 0) 103
  have hb : Below w.heap.size w (((w.alloc (.cells (arrOf 128 (u8f blk)) 86)).alloc (.cells (arrOf 80 fun _ => .int .u64 0) 103)).alloc (.cells (arrOf 80 fun _ => .int .u64 0) 103)) :=
    (((Below.refl _ _).alloc (Nat.le_refl _) _).alloc (by simp only [World.size_alloc]; omega) _).alloc (by simp only [World.size_alloc]; omega) _
  simp only [World.size_alloc] at hX hA hB
  go_wp2_with (first
    | refine wpList_alloc_arr rfl 103 rfl (arrOf 80 fun _ => .int .u64 0) zeroR_64 ?_)
  go_loopw [10] (fun i wr => ∃ j : Nat, j ≤ 16 ∧ i = .int .i64 j ∧ wr.rowIs w.heap.size 86 128 (u8f blk) ∧
    wr.rowIs (w.heap.size + 1 + 1) 103 80 (fun i => .int .u64 (if i < j then ((k512.sched (k512.word blk) i).toNat : Int) else 0)) ∧
    wr.rowIs (w.heap.size + 1) 103 80 (fun _ => .int .u64 0) ∧ Below w.heap.size w wr) (fun i _ => 16 - (intOf i).toNat)
  case atStart => exact ⟨0, Nat.zero_le _, rfl, hX, hB.congr fun i _ => rfl, hA, hb⟩
  case round =>
    obtain ⟨j, hj, rfl, hblk, hrow, hres, hbel⟩ := hrel
    clear hX hA hB hb
    by_cases hlt : j < 16
    · have hcell := hrow.cell (i := j) (by omega)
      have hfr := hrow.frozen j
      have HB : Hid (Bs wr (.slice (some ⟨w.heap.size, 8 * j, none⟩) (128 - 8 * j) (128 - 8 * j)) (blk.drop (8 * j))) := Lib.hid (Bs.of_part hblk _ (by rw [List.length_drop, hl]) (by omega) (Nat.le_refl _) (by unfold maxLen; omega) fun i hi => by
        rw [List.length_drop] at hi
        unfold u8f
        rw [List.getElem_drop, List.getD_eq_getElem?_getD, List.getElem?_eq_getElem (by omega)]; rfl)
      go_wp2_with (first
        | refine wpList_sliceFrom_arr rfl 86 5 (.tmp 1) (.tmp 15) rfl Try.underlying86 (by kernel_rfl) (j := 8 * j) rfl rfl (by omega) (by omega) ?_
        | (go_at_call 88; refine (get64_any _ _ _ HB.out).mono ?_; rintro e w1 ⟨rfl, rfl⟩))
      go_roundw
      case rel =>
        refine ⟨j + 1, by omega, by go_num, hblk.setOther (by show w.heap.size ≠ w.heap.size + 1 + 1; omega) _, (hrow.set j _).congr fun i hi => ?_, hres.setOther (by show w.heap.size + 1 ≠ w.heap.size + 1 + 1; omega) _, hbel.setCell (by show w.heap.size ≤ w.heap.size + 1 + 1; omega) _⟩
        show (if i = j then _ else _) = _
        by_cases e : i = j
        · subst e
          rw [if_pos rfl, if_pos (by omega), Kind.sched_low _ _ _ hlt]
          exact congrArg (Value.int .u64) (numB_w64 _)
        · rw [if_neg e]
          by_cases h2 : i < j
          · rw [if_pos h2, if_pos (by omega)]
          · rw [if_neg h2, if_neg (by omega)]
      case measure => simp [intOf]; omega
    · obtain rfl : j = 16 := by omega
      clear hblk hlt hj
      go_wp2
      go_loopw [5] (fun i wr => ∃ j : Nat, 16 ≤ j ∧ j ≤ 80 ∧ i = .int .i64 j ∧
        wr.rowIs (w.heap.size + 1 + 1) 103 80 (fun i => .int .u64 (if i < j then ((k512.sched (k512.word blk) i).toNat : Int) else 0)) ∧
        wr.rowIs (w.heap.size + 1) 103 80 (fun _ => .int .u64 0) ∧ Below w.heap.size w wr) (fun i _ => 80 - (intOf i).toNat)
      case atStart => exact ⟨16, by omega, by omega, rfl, hrow, hres, hbel⟩
      case round =>
        clear hrow hres hbel
        obtain ⟨j, hj0, hj, rfl, hrow, hres, hbel⟩ := hrel
        by_cases hlt : j < 80
        · have c15 := hrow.cell (i := j - 15) (by omega)
          have c2 := hrow.cell (i := j - 2) (by omega)
          have c7 := hrow.cell (i := j - 7) (by omega)
          have c16 := hrow.cell (i := j - 16) (by omega)
          have c0 := hrow.cell (i := j) (by omega)
          rw [if_pos (by omega)] at c15 c2 c7 c16
          rw [if_neg (by omega)] at c0
          have hfr := hrow.frozen j
          have b1 : (15 : Int) ≤ (j : Int) := by omega
          have b2 : (j : Int) < 80 := by omega
          have hs : IntKind.u64.signed = false := rfl
          go_wp2
          go_quiet (fail)
          go_wp2_with (go_at_call 89; refine (rotl64_lit _ _ _ (by omega) (by omega)).mono ?_; rintro e w1 ⟨rfl, rfl⟩)
          go_region
          go_wp2
          go_roundw
          case rel =>
            (repeat apply Exists.intro)
            refine ⟨?_, rfl⟩
            refine ⟨j + 1, by omega, by omega, by go_num, (hrow.set j _).congr fun i hi => ?_, hres.setOther (by show w.heap.size + 1 ≠ w.heap.size + 1 + 1; omega) _, below_drewN (hbel.setCell (by show w.heap.size ≤ w.heap.size + 1 + 1; omega) _) _⟩
            show (if i = j then _ else _) = _
            by_cases e : i = j
            · subst e
              rw [if_pos rfl, if_pos (by omega), Kind.sched_high _ _ _ hj0]
              refine congrArg (Value.int .u64) ?_
              have e1 : bits .xor .u64 (bits .xor .u64 (rotr (k512.sched (k512.word blk) (i - 2)) 19).toNat (rotr (k512.sched (k512.word blk) (i - 2)) 61).toNat) (((k512.sched (k512.word blk) (i - 2)).toNat : Int) / 64) = ((k512.low1 (k512.sched (k512.word blk) (i - 2))).toNat : Int) := sig_val64 _ 19 61 6
              have e2 : bits .xor .u64 (bits .xor .u64 (rotr (k512.sched (k512.word blk) (i - 15)) 1).toNat (rotr (k512.sched (k512.word blk) (i - 15)) 8).toNat) (((k512.sched (k512.word blk) (i - 15)).toNat : Int) / 128) = ((k512.low0 (k512.sched (k512.word blk) (i - 15))).toNat : Int) := sig_val64 _ 1 8 7
              rw [e1, e2]
              exact add4_64 _ _ _ _
            · rw [if_neg e]
              by_cases h2 : i < j
              · rw [if_pos h2, if_pos (by omega)]
              · rw [if_neg h2, if_neg (by omega)]
          case measure => simp [intOf]; omega
        · obtain rfl : j = 80 := by omega
          have hrowR : wr.rowIs (w.heap.size + 1 + 1) 103 80 (w64 (k512.sched (k512.word blk))) := hrow.congr fun i hi => by rw [if_pos hi]; rfl
          go_wp2_with (first
            | refine wpList_load_arr rfl 103 (.tmp 3) rfl 80 arrR_64 hrowR rfl (by omega) ?_
            | (refine wpList_store_arr rfl 103 (.tmp 2) (.tmp 63) rfl 80 arrR_64 hres rfl rfl (by omega) (fun _ _ => rfl) ?_; intro w2 hr2 hg2 hs2))
          refine ret_cell_arr rfl arrR_64 hr2 rfl (by omega) rfl ⟨?_, hbel.grown hg2 hbel.size (by intro k hk; cases hk; omega)⟩
          refine congrArg (fun c => Ending.returned (Value.agg c)) (arrOf_congr fun i hi => ?_)
          unfold putN
          rw [if_pos (by omega)]
          simp only [Nat.zero_add, Nat.sub_zero]
end Go.Proofs.Ytonhpmaiagbheaa

/- One more block: sha2's press256, press512. -/
set_option linter.unusedSimpArgs false
set_option linter.unusedVariables false
namespace Go.Proofs.Ytonhpmaiagbheaa
open Go.RowKit Go.Deep
theorem press_a64 (W h t c : BitVec 64) (j : Nat) (g m : BitVec 64) : IntKind.u64.wrap (IntKind.u64.wrap (IntKind.u64.wrap ((W.toNat : Int) + IntKind.u64.wrap (IntKind.u64.wrap (IntKind.u64.wrap ((h.toNat : Int) + t.toNat) + c.toNat) + (K64 j).toNat)) + g.toNat) + m.toNat) = ((W + (h + t + c + K64 j) + g + m).toNat : Int) := by
  simp only [wadd64]
theorem press_e64 (d W h t c : BitVec 64) (j : Nat) : IntKind.u64.wrap ((d.toNat : Int) + IntKind.u64.wrap ((W.toNat : Int) + IntKind.u64.wrap (IntKind.u64.wrap (IntKind.u64.wrap ((h.toNat : Int) + t.toNat) + c.toNat) + (K64 j).toNat))) = ((d + (W + (h + t + c + K64 j))).toNat : Int) := by
  simp only [wadd64]

set_option maxHeartbeats 4000000 in
theorem press512_any (s : S8 64) (blk : List UInt8) (w : World) (hl : blk.length = 128) :
    Calls Try.prog 56 #[.agg (arrOf 8 (w64 s.at)), .agg (arrOf 128 (u8f blk))] w fun e w' => e = .returned (.agg (arrOf 8 (w64 (k512.press s blk).at))) ∧ Below w.heap.size w w' := by
  go_enter Try.func56, Try.ntmps56
  have hA := ((rowIs_arr w 8 (w64 s.at) 84).alloc (.cells (arrOf 128 (u8f blk)) 86)).alloc (.cells (arrOf 8 fun _ => .int .u64 0) 84)
  have hB := (rowIs_arr (w.alloc (.cells (arrOf 8 (w64 s.at)) 84)) 128 (u8f blk) 86).alloc (.cells (arrOf 8 fun _ => .int .u64 0) 84)
  have hC := rowIs_arr ((w.alloc (.cells (arrOf 8 (w64 s.at)) 84)).alloc (.cells (arrOf 128 (u8f blk)) 86)) 8 (fun _ => .int .u64 0) 84
  have hb : Below w.heap.size w (((w.alloc (.cells (arrOf 8 (w64 s.at)) 84)).alloc (.cells (arrOf 128 (u8f blk)) 86)).alloc (.cells (arrOf 8 fun _ => .int .u64 0) 84)) :=
    (((Below.refl _ _).alloc (Nat.le_refl _) _).alloc (by simp only [World.size_alloc]; omega) _).alloc (by simp only [World.size_alloc]; omega) _
  simp only [World.size_alloc] at hA hB hC
  have hw : ∀ i, w64 s.at i = .int .u64 ((s.at i).toNat : Int) := fun _ => rfl
  go_wp2_with (first
    | refine wpList_alloc_arr rfl 84 rfl (arrOf 8 fun _ => .int .u64 0) zero8_64 ?_
    | (go_at_call 75; refine (roots_any _).mono ?_; rintro e w1 ⟨rfl, hb1⟩
       replace hA := hA.of_block (hb1.block _ hA.lt)
       replace hB := hB.of_block (hb1.block _ hB.lt)
       replace hC := hC.of_block (hb1.block _ hC.lt)
       replace hb := hb.trans (hb1.mono hb.size)
       replace hb := hb.alloc hb.size (.cells (arrOf 80 fun _ => .int .u64 0) 103)
       have hR := rowIs_arr w1 80 (fun _ => .int .u64 0) 103
       have hsz := hb1.size
       simp only [World.size_alloc] at hsz
       clear hb1)
    | refine wpList_alloc_arr rfl 103 rfl (arrOf 80 fun _ => .int .u64 0) zero80 ?_
    | (refine wpList_store_arr rfl 103 (.tmp 5) (.tmp 18) rfl 80 arr80 hR rfl rfl (by omega) (fun _ _ => rfl) ?_; intro w2 hr2 hg2 hs2
       replace hA := (hA.alloc (.cells (arrOf 80 fun _ => .int .u64 0) 103)).of_block (hg2.block _ (by simp only [World.size_alloc]; omega) (by intro h; have := Option.some.inj h; omega))
       replace hB := (hB.alloc (.cells (arrOf 80 fun _ => .int .u64 0) 103)).of_block (hg2.block _ (by simp only [World.size_alloc]; omega) (by intro h; have := Option.some.inj h; omega))
       replace hC := (hC.alloc (.cells (arrOf 80 fun _ => .int .u64 0) 103)).of_block (hg2.block _ (by simp only [World.size_alloc]; omega) (by intro h; have := Option.some.inj h; omega))
       replace hb := hb.grown hg2 hb.size (by intro k hk; cases hk; omega)
       replace hR := hr2.congr (g := w64 K64) (fun i hi => by unfold putN; rw [if_pos (by omega)]; rfl)
       clear hr2 hg2 hs2)
    | refine wpList_load_arr rfl 84 (.tmp 2) rfl 8 arr8_64 hA rfl (by omega) ?_
    | (go_at_call 76; refine (all64_any s.at _).mono ?_; rintro e w3 ⟨rfl, hb3⟩
       replace hA := hA.of_block (hb3.block _ hA.lt)
       replace hB := hB.of_block (hb3.block _ hB.lt)
       replace hC := hC.of_block (hb3.block _ hC.lt)
       replace hR := hR.of_block (hb3.block _ hR.lt)
       replace hb := hb.trans (hb3.mono hb.size)
       clear hb3)
    | refine wpList_load_arr rfl 86 (.tmp 3) rfl 128 arrB_64 hB rfl (by omega) ?_
    | (go_at_call 77; refine (spread512_any blk _ hl).mono ?_; rintro e w4 ⟨rfl, hb4⟩
       replace hA := hA.of_block (hb4.block _ hA.lt)
       replace hC := hC.of_block (hb4.block _ hC.lt)
       replace hR := hR.of_block (hb4.block _ hR.lt)
       replace hb := hb.trans (hb4.mono hb.size)
       clear hb4 hB))
  clear hw
  generalize w1.heap.size = nb at *
  obtain ⟨W, hW⟩ : ∃ W, W = k512.sched (k512.word blk) := ⟨_, rfl⟩
  rw [← hW]
  go_loopw [6, 7, 8, 9, 10, 11, 12, 13, 32] (fun a b c d e f g h i wr => ∃ (j : Nat) (s' : S8 64), j ≤ 80 ∧ Hid (s' = k512.rnd W s j) ∧ i = .int .i64 j ∧
    a = .int .u64 (s'.a.toNat : Int) ∧ b = .int .u64 (s'.b.toNat : Int) ∧ c = .int .u64 (s'.c.toNat : Int) ∧ d = .int .u64 (s'.d.toNat : Int) ∧
    e = .int .u64 (s'.e.toNat : Int) ∧ f = .int .u64 (s'.f.toNat : Int) ∧ g = .int .u64 (s'.g.toNat : Int) ∧ h = .int .u64 (s'.h.toNat : Int) ∧
    wr.rowIs w.heap.size 84 8 (w64 s.at) ∧ wr.rowIs (w.heap.size + 1 + 1) 84 8 (fun _ => .int .u64 0) ∧ wr.rowIs nb 103 80 (w64 K64) ∧ Below w.heap.size w wr) (fun _ _ _ _ _ _ _ _ i _ => 80 - (intOf i).toNat)
  case atStart => exact ⟨0, s, Nat.zero_le _, rfl, rfl, rfl, rfl, rfl, rfl, rfl, rfl, rfl, rfl, hA, hC, hR, hb⟩
  case round =>
    clear hA hC hR hb
    obtain ⟨j, s', hj, HS, rfl, rfl, rfl, rfl, rfl, rfl, rfl, rfl, rfl, hA, hC, hR, hb⟩ := hrel
    by_cases hlt : j < 80
    · have hcell : wr.cell? ⟨nb, j, none⟩ = some (.int .u64 ((K64 j).toNat : Int)) := hR.cell (by omega)
      have hw : w64 W j = .int .u64 ((W j).toNat : Int) := rfl
      have hs : IntKind.u64.signed = false := rfl
      have hj80 : (j : Int) < 80 := by omega
      clear hW
      go_wp2_with (first
        | refine wpList_index_arr rfl 103 47 (.tmp 31) (.tmp 32) rfl 80 Try.underlying103 _ Try.underlying47 rfl (by kernel_rfl) rfl rfl hlt ?_
        | (go_at_call 78; refine (turn64_lit _ _ _ _ _ (by omega) (by omega) (by omega) (by omega) (by omega) (by omega)).mono ?_; rintro e w1 ⟨rfl, rfl⟩))
      go_quiet ((go_at_call 79; exact Calls.quiet_of_same (choose64_any _ _ _ _)))
      go_wp2_with (go_at_call 80; refine (most64_any _ _ _ _).mono ?_; rintro e w1 ⟨rfl, rfl⟩)
      go_roundw
      case rel =>
        refine ⟨j + 1, k512.step (k512.num j) (W j) s', by omega, by rw [HS.out]; rfl, by go_num, ?_, rfl, rfl, rfl, ?_, rfl, rfl, rfl, hA, hC, hR, below_drewN hb _⟩
        · exact congrArg (Value.int .u64) (press_a64 (W j) s'.h (k512.big1 s'.e) (chz s'.e s'.f s'.g) j (k512.big0 s'.a) (maj s'.a s'.b s'.c))
        · exact congrArg (Value.int .u64) (press_e64 s'.d (W j) s'.h (k512.big1 s'.e) (chz s'.e s'.f s'.g) j)
      case measure => simp [intOf]; omega
    · obtain rfl : j = 80 := by omega
      go_wp2_with (first
        | refine wpList_load_arr rfl 84 (.tmp 2) rfl 8 arr8_64 hA rfl (by omega) ?_
        | refine wpList_build_arr rfl 84 _ rfl (arrOf 8 (w64 s'.at)) (by kernel_rfl) ?_
        | (go_at_call 81; refine (plus64_any s.at s'.at _).mono ?_; rintro e w5 ⟨rfl, hb5⟩
           replace hC := hC.of_block (hb5.block _ hC.lt)
           replace hb := hb.trans (hb5.mono hb.size)
           clear hb5)
        | (refine wpList_store_arr rfl 84 (.tmp 4) (.tmp 82) rfl 8 arr8_64 hC rfl rfl (by omega) (fun _ _ => rfl) ?_; intro w6 hr6 hg6 hs6))
      refine ret_cell_arr rfl arr8_64 hr6 rfl (by omega) rfl ⟨?_, hb.grown hg6 hb.size (by intro k hk; cases hk; omega)⟩
      refine congrArg (fun c => Ending.returned (Value.agg c)) (arrOf_congr fun i hi => ?_)
      unfold putN
      rw [if_pos (by omega)]
      have hp : k512.press s blk = S8.add s s' := by rw [HS.out, hW]; rfl
      rw [hp]
      simp only [Nat.zero_add, Nat.sub_zero]
      show Value.int .u64 ((s.at i + s'.at i).toNat : Int) = Value.int .u64 (((S8.add s s').at i).toNat : Int)
      rw [S8.at_add]
end Go.Proofs.Ytonhpmaiagbheaa

/- What makes whole blocks: sha2's ending. -/
set_option linter.unusedSimpArgs false
set_option linter.unusedVariables false
namespace Go.Proofs.Ytonhpmaiagbheaa
open Go.RowKit Go.Deep

theorem endRoom_ge (n B : Nat) (hB : 64 ≤ B) : 9 ≤ endRoom n B ∧ endRoom n B ≤ 2 * B := by
  have h1 : n % B < B := Nat.mod_lt _ (by omega)
  unfold endRoom; split <;> omega
theorem getD_of_lt (l : List UInt8) (i : Nat) (h : i < l.length) : l.getD i 0 = l[i] := by
  rw [List.getD_eq_getElem?_getD, List.getElem?_eq_getElem h]; rfl
theorem endOf_get (n B i : Nat) (hB : 64 ≤ B) (h : i < endRoom n B) : (endOf n B).getD i 0 = if i = 0 then 128 else if i < endRoom n B - 8 then 0 else (bigB (8 * n) 8).getD (i - (endRoom n B - 8)) 0 := by
  have h9 := endRoom_ge n B hB
  unfold endOf
  generalize endRoom n B = r at *
  have hl : ([128] ++ List.replicate (r - 9) (0 : UInt8)).length = r - 8 := by simp; omega
  rw [List.getD_eq_getElem?_getD, List.getElem?_append, hl]
  by_cases e1 : i = 0
  · subst e1; rw [if_pos (by omega)]; rfl
  · rw [if_neg e1]
    by_cases e2 : i < r - 8
    · rw [if_pos e2, if_pos e2]
      obtain ⟨j, rfl⟩ : ∃ j, i = j + 1 := ⟨i - 1, by omega⟩
      simp [show j < r - 9 by omega]
    · rw [if_neg e2, if_neg e2, List.getD_eq_getElem?_getD]

set_option maxHeartbeats 4000000 in
theorem ending128_any (n : Nat) (w : World) (hn : n < 2 ^ 60) :
    Calls Try.prog 58 #[.int .u64 n, .int .i64 128] w fun e w' => ∃ v, e = .returned v ∧ Bs w' v (endOf n 128) ∧ Below w.heap.size w w' ∧ ∃ c, v = .slice (some ⟨w.heap.size, 0, none⟩) (endOf n 128).length c := by
  obtain ⟨r, hr⟩ : ∃ r, r = endRoom n 128 := ⟨_, rfl⟩
  have hr9 : 9 ≤ r ∧ r ≤ 256 := by rw [hr]; have := endRoom_ge n 128 (by omega); omega
  have hmk : ∀ w : World, (Instr.makeSlice 22 (.int .i64 r) (.int .i64 r)).run Try.prog w = .ok (.slice (some ⟨w.heap.size, 0, none⟩) r r) (w.alloc (.cells (madeCells #[.int .u8 0] r) 5)) :=
    fun w => run_make_row' (P := Try.prog) 22 5 (.int .u8 0) 1 Try.underlying22 Try.info5 rfl .i64 .i64 r (by omega) (by omega) w
  have hmade := World.rowIs_made w (.int .u8 0) r 5
  have hc0 := hmade.cell (i := 0) (by omega)
  have hf0 := hmade.frozen 0
  have hr0 : (0 : Int) < (r : Int) := by omega
  go_enter Try.func58, Try.ntmps58
  by_cases hc : 128 - n % 128 < 1 + 128 / 8
  focus
    have hrI : (128 : Int) - (n : Int) % 128 + 128 = (r : Int) := by rw [hr]; unfold endRoom; rw [if_pos hc]; omega
    have hcI : (128 : Int) - (n : Int) % 128 < 17 := by omega
    have HR := Lib.hid hr
    clear hr hc
    go_wp2
  rotate_left
  focus
    have hrI : (128 : Int) - (n : Int) % 128 = (r : Int) := by rw [hr]; unfold endRoom; rw [if_neg hc]; omega
    have hcI : (17 : Int) ≤ (r : Int) := by rw [hr]; unfold endRoom; rw [if_neg hc]; omega
    have HR := Lib.hid hr
    clear hr hc
    go_wp2
  rotate_left
  all_goals
    have hrow := hmade.set 0 (.int .u8 128)
    have hb : Below w.heap.size w ((w.alloc (.cells (madeCells #[.int .u8 0] r) 5)).setCell ⟨w.heap.size, 0, none⟩ (.int .u8 128)) := ((Below.refl _ _).alloc (Nat.le_refl _) _).setCell (Nat.le_refl _) _
    rw [World.setCell_alloc_at _ _ _ _ _ rfl] at hrow hb
    generalize (w.alloc (.cells ((madeCells #[.int .u8 0] r).setIfInBounds 0 (.int .u8 128)) 5)) = w0 at *
    clear hmade hmk hc0 hf0 hr0 hcI hrI
    have hw8 : IntKind.i64.wrap ((r : Int) - 8) = ((r - 8 : Nat) : Int) := by rw [IntWalk.i64_in _ (by omega)]; omega
    have hm8 : IntKind.u64.wrap (8 * (n : Int)) = ((8 * n : Nat) : Int) := by rw [IntWalk.u64_in _ (by omega)]; omega
    replace hrow := hrow.drew
    replace hb := hb.drew
    refine wp_region_lins [(0, some []), (1, some []), (2, some []), (3, some [7]), (4, some []), (5, some [6]), (6, none), (7, none)] (fun _ _ => True) (by kernel_rfl) (by kernel_rfl) (by decide) (by kernel_rfl) (fun d _ _ _ _ h => by cases d <;> exact h) (fun _ _ => trivial) ?_
    refine lins_read 26 (Op.move (Operand.tmp 6)) 22 _ rfl rfl rfl rfl rfl (fun w0 hw0 => by unfold mkOp; go_simp; all_goals (with_reducible rfl)) ?_
    simp only [Act.put, List.setIfInBounds_toArray, List.set_cons_zero, List.set_cons_succ]
    refine lins_read 27 (Op.move (Operand.tmp 5)) 3 _ rfl rfl rfl rfl rfl (fun w0 hw0 => by unfold mkOp; go_simp; all_goals (with_reducible rfl)) ?_
    simp only [Act.put, List.setIfInBounds_toArray, List.set_cons_zero, List.set_cons_succ]
    refine lins_read 28 (Op.binOp BinOp.sub 3 (Operand.tmp 27) (Operand.const (Value.int IntKind.i64 8)) 3) 3 _ rfl rfl rfl rfl rfl (fun w0 hw0 => by unfold mkOp; go_simp; all_goals (with_reducible rfl)) ?_
    simp only [Act.put, List.setIfInBounds_toArray, List.set_cons_zero, List.set_cons_succ]
    refine lins_read 29 (Op.slice 22 (Operand.tmp 26) (some (Operand.tmp 28)) none none) 22 (.slice (some ⟨w.heap.size, r - 8, none⟩) 8 8) rfl rfl rfl rfl rfl (fun w0 hw0 => by exact exec_sliceAt _ _ _ _ _ _ (r - 8) Try.underlying22 (by kernel_rfl) rfl rfl (by omega) (by omega) (by omega) (by omega) (by omega) (by omega)) ?_
    simp only [Act.put, List.setIfInBounds_toArray, List.set_cons_zero, List.set_cons_succ]
    refine lins_read 30 (Op.move (Operand.tmp 0)) 47 _ rfl rfl rfl rfl rfl (fun w0 hw0 => by unfold mkOp; go_simp; all_goals (with_reducible rfl)) ?_
    simp only [Act.put, List.setIfInBounds_toArray, List.set_cons_zero, List.set_cons_succ]
    refine lins_read 31 (Op.binOp BinOp.mul 47 (Operand.const (Value.int IntKind.u64 8)) (Operand.tmp 30) 47) 47 _ rfl rfl rfl rfl rfl (fun w0 hw0 => by unfold mkOp; go_simp; all_goals (with_reducible rfl)) ?_
    simp only [Act.put, List.setIfInBounds_toArray, List.set_cons_zero, List.set_cons_succ]
    refine lins_fn (some 32) 59 #[Operand.tmp 31] #[47] _ (put64_any (8 * n) _ (by omega)) rfl rfl rfl rfl Try.func59 (by kernel_rfl) (by kernel_rfl) (by go_simp) ?_
    rintro e w1 ⟨v1, rfl, hB1, hb1⟩
    replace hrow := World.rowIs.of_block hrow (hb1.block _ hrow.lt)
    replace hb := hb.trans (hb1.mono hb.size)
    refine ⟨_, rfl, fun _ _ => True, fun _ _ => ⟨trivial, fun _ _ => trivial⟩, ?_⟩
    simp only [Act.put, List.setIfInBounds_toArray, List.set_cons_zero, List.set_cons_succ]
    refine lins_copy (some 33) (.tmp 29) (.tmp 32) 3 rfl rfl rfl rfl rfl hrow hB1 rfl rfl (by omega) 8 (by rw [bigB_length]; rfl) ?_
    intro w2 hr2 hg2 hs2
    refine ⟨fun _ _ => True, fun _ _ => ⟨trivial, fun _ _ => trivial⟩, ?_⟩
    try simp only [Act.put, List.setIfInBounds_toArray, List.set_cons_zero, List.set_cons_succ]
    refine lins_end ?_
    go_wp2
    go_ret
    refine ⟨_, rfl, Bs.of_part hr2 (endOf n 128) ?_ (by omega) (Nat.le_refl _) (by unfold maxLen; omega) ?_, hb.grown hg2 hb.size (by intro k hk; cases hk; omega), r, by rw [endOf_length _ _ (by omega), ← HR.out]; rfl⟩
    · rw [endOf_length _ _ (by omega), HR.out]
    · intro i hi
      rw [endOf_length _ _ (by omega)] at hi
      rw [← getD_of_lt _ i (by rw [endOf_length _ _ (by omega)]; exact hi), endOf_get n 128 i (by omega) hi, ← HR.out]
      rw [← HR.out] at hi
      rw [Nat.zero_add]
      unfold putN bytesAt
      by_cases e1 : i = 0
      · subst e1
        rw [if_neg (by omega), if_pos rfl]
        rfl
      · rw [if_neg e1]
        by_cases e2 : i < r - 8
        · rw [if_neg (by omega), if_pos e2]
          show (if i = 0 then _ else _) = _
          rw [if_neg e1]
          rfl
        · rw [if_pos (by omega), if_neg e2]
end Go.Proofs.Ytonhpmaiagbheaa

/- A sum that is under way: the state behind the whole blocks, and the block that was begun; no world in it. -/
set_option linter.unusedSimpArgs false
set_option linter.unusedVariables false
namespace Go.Proofs.Ytonhpmaiagbheaa
open Go.RowKit Go.Deep

def lst (B : Nat) (blk : Nat → UInt8) : List UInt8 := (List.range B).map blk
theorem lst_length (B : Nat) (blk : Nat → UInt8) : (lst B blk).length = B := by simp [lst]
theorem lst_get (B : Nat) (blk : Nat → UInt8) (i : Nat) (h : i < B) : (lst B blk)[i]? = some (blk i) := by simp [lst, h]
theorem lst_getD (B : Nat) (blk : Nat → UInt8) (i : Nat) (h : i < B) : (lst B blk).getD i 0 = blk i := by
  rw [List.getD_eq_getElem?_getD, lst_get B blk i h]; rfl
/-- blk with cs laid over it from place k on. -/
def patch (blk : Nat → UInt8) (k n : Nat) (cs : List UInt8) : Nat → UInt8 := fun i => if k ≤ i ∧ i < k + n then cs.getD (i - k) 0 else blk i

section
variable {n : Nat} (k : Kind n)
/-- Behind the bytes m: s is the state behind the whole blocks, blk begins with what is left. -/
structure Dig (m : List UInt8) (s : S8 n) (blk : Nat → UInt8) : Prop where
  state : s = k.state m (m.length / k.block)
  begun : ∀ i, i < m.length % k.block → blk i = m.getD (k.block * (m.length / k.block) + i) 0

theorem Dig.short {k : Kind n} {m : List UInt8} {s : S8 n} {blk : Nat → UInt8} (h : Dig k m s blk) (l : List UInt8) (c : Nat) (hc : c ≤ l.length) (hb : m.length % k.block + c < k.block) :
    Dig k (m ++ l.take c) s (patch blk (m.length % k.block) c l) := by
  obtain ⟨h1, h2⟩ := h
  have hl : (m ++ l.take c).length = m.length + c := by simp; omega
  have hdm := Nat.div_add_mod m.length k.block
  have hq : (m.length + c) / k.block = m.length / k.block := by
    rw [Nat.div_eq_iff (by omega)]
    constructor
    · rw [Nat.mul_comm]; omega
    · rw [Nat.mul_comm]; omega
  have hr : (m.length + c) % k.block = m.length % k.block + c := by
    have h3 := Nat.div_add_mod (m.length + c) k.block
    rw [hq] at h3
    omega
  refine ⟨?_, fun i hi => ?_⟩
  · rw [hl, hq, k.state_append _ _ _ (by omega)]; exact h1
  · rw [hl, hr] at hi
    rw [hl, hq]
    unfold patch
    have e0 : (m ++ l.take c).getD (k.block * (m.length / k.block) + i) 0 = ((m ++ l.take c)[k.block * (m.length / k.block) + i]?).getD 0 := List.getD_eq_getElem?_getD
    rw [e0, List.getElem?_append]
    by_cases e : i < m.length % k.block
    · rw [if_neg (by omega), if_pos (by omega), h2 i e, List.getD_eq_getElem?_getD]
    · rw [if_pos (by omega), if_neg (by omega), List.getElem?_take_of_lt (by omega), List.getD_eq_getElem?_getD]
      congr 2
      omega

theorem Dig.full {k : Kind n} {m : List UInt8} {s : S8 n} {blk : Nat → UInt8} (h : Dig k m s blk) (l : List UInt8) (c : Nat) (hc : c ≤ l.length) (hb : m.length % k.block + c = k.block) (hk : 0 < k.block) :
    Dig k (m ++ l.take c) (k.press s (lst k.block (patch blk (m.length % k.block) c l))) (patch blk (m.length % k.block) c l) := by
  obtain ⟨h1, h2⟩ := h
  have hl : (m ++ l.take c).length = m.length + c := by simp; omega
  have hdm := Nat.div_add_mod m.length k.block
  have hmul : m.length + c = k.block * (m.length / k.block + 1) := by rw [Nat.mul_add]; omega
  have hq : (m.length + c) / k.block = m.length / k.block + 1 := by rw [hmul, Nat.mul_div_cancel_left _ hk]
  have hr : (m.length + c) % k.block = 0 := by rw [hmul, Nat.mul_mod_right]
  refine ⟨?_, fun i hi => by rw [hl, hr] at hi; omega⟩
  rw [hl, hq]
  show _ = k.press (k.state (m ++ l.take c) (m.length / k.block)) _
  rw [k.state_append _ _ _ (by omega), ← h1]
  congr 1
  apply List.ext_getElem?
  intro i
  rw [List.getElem?_take, List.getElem?_drop]
  by_cases hi : i < k.block
  · rw [lst_get _ _ _ hi, if_pos hi, List.getElem?_append]
    unfold patch
    by_cases e : i < m.length % k.block
    · rw [if_neg (by omega), if_pos (by omega), h2 i e, List.getD_eq_getElem?_getD, List.getElem?_eq_getElem (by omega)]; rfl
    · rw [if_pos (by omega), if_neg (by omega), List.getElem?_take_of_lt (by omega), List.getD_eq_getElem?_getD]
      rw [show k.block * (m.length / k.block) + i - m.length = i - m.length % k.block by omega]
      rw [List.getElem?_eq_getElem (by omega)]; rfl
  · rw [if_neg hi, List.getElem?_eq_none (by rw [lst_length]; omega)]

/-- What the sum is, once the ending has come in too. -/
theorem Dig.sum {k : Kind n} {m : List UInt8} {s : S8 n} {blk : Nat → UInt8} (h : Dig k (m ++ endOf m.length k.block) s blk) : k.out s 8 = k.sum m := by
  rw [h.state]; rfl
end
end Go.Proofs.Ytonhpmaiagbheaa

/- Where a sum that is under way lies in memory; the closures that press its block. -/
set_option linter.unusedSimpArgs false
set_option linter.unusedVariables false
namespace Go.Proofs.Ytonhpmaiagbheaa
open Go.RowKit Go.Deep

/-- Sum512's variables: the state at x, the block at y. -/
structure M512 (w : World) (x y : Nat) (s : S8 64) (blk : Nat → UInt8) (z : Nat) : Prop where
  ne : x ≠ y
  state : w.rowIs x 84 8 (w64 s.at)
  row : w.rowIs y 86 128 (u8f (lst 128 blk))

set_option maxHeartbeats 1600000 in
/-- Sum512's press. -/
theorem press512_closure (x y : Nat) (s : S8 64) (blk : Nat → UInt8) (z : Nat) (w : World) (hM : M512 w x y s blk z) :
    Calls Try.prog 55 #[.pointer (some ⟨x, 0, none⟩), .pointer (some ⟨y, 0, none⟩)] w fun e w' => e = .returned (.tuple #[]) ∧ M512 w' x y (k512.press s (lst 128 blk)) blk z ∧ Tch x y w w' := by
  obtain ⟨hne, hS, hR⟩ := hM
  go_enter Try.func55, Try.ntmps55
  go_wp2_with (first
    | (refine wpList_load_arr rfl 84 (.tmp 0) rfl 8 arr8_64 hS rfl (by omega) ?_; simp only [Nat.zero_add])
    | (refine wpList_load_arr rfl 86 (.tmp 1) rfl 128 arrB_64 hR rfl (by omega) ?_; simp only [Nat.zero_add])
    | (go_at_call 56; refine (press512_any s (lst 128 blk) _ (lst_length _ _)).mono ?_; rintro e w2 ⟨rfl, hb2⟩
       replace hS := hS.of_block (hb2.block _ hS.lt)
       replace hR := hR.of_block (hb2.block _ hR.lt))
    | (refine wpList_store_arr rfl 84 (.tmp 0) (.tmp 4) rfl 8 arr8_64 hS rfl rfl (by omega) (fun _ _ => rfl) ?_; intro w3 hr3 hg3 hs3))
  go_end0
  refine ⟨rfl, ⟨hne, hr3.congr fun i hi => ?_, hR.of_block (hg3.block _ hR.lt (fun e => hne (Option.some.inj e).symm))⟩, (Tch.of_below hb2).trans (Tch.left hg3)⟩
  unfold putN
  rw [if_pos (by omega), Nat.sub_zero]
end Go.Proofs.Ytonhpmaiagbheaa

/- sha2's cut: bytes come in, whole blocks are pressed. -/
set_option linter.unusedSimpArgs false
set_option linter.unusedVariables false
namespace Go.Proofs.Ytonhpmaiagbheaa
open Go.RowKit Go.Deep

theorem putN_copy64 (s : S8 64) (blk : Nat → UInt8) (z k c : Nat) (l : List UInt8) (hk : k + c ≤ 128) (i : Nat) (hi : i < 128) : putN (u8f (lst 128 blk)) (0 + k) c (bytesAt l) i = u8f (lst 128 (patch blk k c l)) i := by
  unfold putN u8f bytesAt
  rw [lst_getD _ _ _ hi, lst_getD _ _ _ hi]
  unfold patch
  by_cases e : 0 + k ≤ i ∧ i < 0 + k + c
  · rw [if_pos e, if_pos (by omega), show i - (0 + k) = i - k by omega]
  · rw [if_neg e, if_neg (by omega)]
theorem M512.copied {w w' : World} {x y : Nat} {s : S8 64} {blk : Nat → UInt8} {z k c p : Nat} {l : List UInt8} (h : M512 w x y s blk z) (hp : p = 0 + k) (hk : k + c ≤ 128) (hr : w'.rowIs y 86 128 (putN (u8f (lst 128 blk)) p c (bytesAt l))) (hg : w.grownBy w' (some y)) : M512 w' x y s (patch blk k c l) z :=
  ⟨h.ne, h.state.of_block (hg.block _ h.state.lt (fun e => h.ne (Option.some.inj e))), hr.congr fun i hi => by rw [hp]; exact putN_copy64 s blk z k c l hk i hi⟩

set_option maxHeartbeats 4000000 in
theorem cut512_any (x y : Nat) (s : S8 64) (blk : Nat → UInt8) (z : Nat) (m l : List UInt8) (vb : Value) (w : World) (hM : M512 w x y s blk z) (hD : Dig k512 m s blk) (hB : Bs w vb l) (hx : Away vb x) (hy : Away vb y) (hlen : m.length + l.length < 2 ^ 60) :
    Calls Try.prog 57 #[.slice (some ⟨y, 0, none⟩) 128 128, .int .u64 m.length, vb, .func (.func 55) #[] #[.pointer (some ⟨x, 0, none⟩), .pointer (some ⟨y, 0, none⟩)]] w fun e w' =>
      e = .returned (.int .u64 ((m.length + l.length : Nat) : Int)) ∧ ∃ s' blk', M512 w' x y s' blk' z ∧ Dig k512 (m ++ l) s' blk' ∧ Tch x y w w' := by
  obtain ⟨ad0, n0, cap0, rfl, hn0, _, _, hB0⟩ := hB.shape
  go_enter Try.func57, Try.ntmps57
  clear hB
  have HB := Lib.hid hB0
  have HL := Lib.hid hn0
  have hn60 : m.length + n0 < 2 ^ 60 := by omega
  clear hB0 hn0
  go_wp2
  go_loopw [1, 2] (fun size b wr => ∃ (j : Nat) (ad : Option Addr) (cap : Nat) (s : S8 64) (blk : Nat → UInt8) (q : Nat), j ≤ n0 ∧ Hid ((m ++ l.take j).length = q) ∧ Hid (q = m.length + j) ∧ size = .int .u64 (q : Int) ∧ b = .slice ad (n0 - j) cap ∧
    Hid (Bs wr (.slice ad (n0 - j) cap) (l.drop j)) ∧ Away (.slice ad (n0 - j) cap) x ∧ Away (.slice ad (n0 - j) cap) y ∧ M512 wr x y s blk z ∧ Dig k512 (m ++ l.take j) s blk ∧ Tch x y w wr) (fun size _ _ => m.length + n0 - (intOf size).toNat)
  case atStart => exact ⟨0, ad0, cap0, s, blk, m.length, Nat.zero_le _, by rw [List.take_zero, List.append_nil]; rfl, rfl, rfl, rfl, HB.out, hx, hy, hM, by simpa using hD, Tch.refl _ _ _⟩
  case round =>
    clear hM hD HB
    obtain ⟨j, ad, cap, s, blk, q, hj, HQ, hq, rfl, rfl, HB, hax, hay, hM, hD, ht⟩ := hrel
    have hqb : q < 2 ^ 60 := by have := hq.out; omega
    by_cases hlt : j < n0
    · obtain ⟨k, hk⟩ : ∃ k, k = q % 128 := ⟨_, rfl⟩
      have hkB : k < 128 := by omega
      have kI : (q : Int) % 128 = (k : Int) := by omega
      obtain ⟨c, hc⟩ : ∃ c, c = Nat.min (n0 - j) (128 - k) := ⟨_, rfl⟩
      have hc1 : c ≤ n0 - j := by rw [hc]; exact Nat.min_le_left _ _
      have hc2 : c ≤ 128 - k := by rw [hc]; exact Nat.min_le_right _ _
      have hc3 : 0 < c := by rw [hc]; exact Nat.lt_min.2 ⟨by omega, by omega⟩
      have hpos : (0 : Int) < ((n0 - j : Nat) : Int) := by omega
      have HC := Lib.hid hc
      have HK := Lib.hid hk
      have hq60 : q + c < 2 ^ 60 := by have := hq.out; omega
      clear hk hc
      by_cases hfull : k + c = 128
      · have hz : ((q : Int) + (c : Int)) % 128 = 0 := by have := HK.out; omega
        go_wp2_with (first
          | refine wpList_op rfl (.slice 22 (.tmp 17) (some (.tmp 20)) none none) 22 (.slice (some ⟨y, 0 + k, none⟩) (128 - k) (128 - k)) rfl rfl (exec_sliceAt _ _ _ _ _ _ k Try.underlying22 (by kernel_rfl) rfl rfl rfl (by omega) (by omega) rfl rfl rfl) ?_
          | (refine wpList_copy_bytes rfl (.tmp 21) (.tmp 22) rfl hM.row HB.out rfl rfl (by omega) c (by rw [List.length_drop, HL.out]; exact HC.out) ?_; intro w2 hr2 hg2 hs2
             have hM2 := hM.copied (k := k) (by omega) (by omega) hr2 hg2
             have HB2 := Lib.hid (HB.out.touched (Tch.right hg2) hax hay)
             clear HB)
          | (refine wpList_bsFrom rfl (.tmp 24) (.tmp 25) rfl HB2.out c rfl rfl rfl (by omega) ?_; intro ad' had' hB3
             have HA := Lib.hid had'
             have HB3 := Lib.hid hB3
             clear had' hB3)
          | (go_at_call 55; refine (press512_closure x y s _ z _ hM2).mono ?_; rintro e w3 ⟨rfl, hM3, ht3⟩))
        go_roundw
        case rel =>
          have hdd : l.drop (j + c) = (l.drop j).drop c := by rw [List.drop_drop]
          have htt : m ++ l.take (j + c) = (m ++ l.take j) ++ (l.drop j).take c := by rw [List.append_assoc, List.take_add]
          have hmod : (m ++ l.take j).length % k512.block = k := by rw [HQ.out]; exact HK.out.symm
          refine ⟨j + c, ad', cap - c, _, _, q + c, by omega, ?_, by have := hq.out; show _ = _; omega, by go_num, by rw [Nat.sub_sub], ?_, ?_, ?_, hM3, ?_, (ht.trans (Tch.right hg2)).trans ht3⟩
          · show _ = _
            rw [htt, List.length_append, HQ.out, List.length_take, List.length_drop, HL.out]
            omega
          · rw [hdd, ← Nat.sub_sub]
            refine HB3.out.touched ht3 ?_ ?_
            · rw [HA.out]; exact hax.drop (by omega)
            · rw [HA.out]; exact hay.drop (by omega)
          · rw [HA.out]; exact hax.drop (by omega)
          · rw [HA.out]; exact hay.drop (by omega)
          · have hf := hD.full (l.drop j) c (by rw [List.length_drop, HL.out]; exact hc1) (by rw [hmod]; exact hfull) (by decide)
            rw [hmod] at hf
            rw [htt]
            exact hf
        case measure => have := hq.out; simp [intOf]; omega
      · have hzn : ((q : Int) + (c : Int)) % 128 = ((k + c : Nat) : Int) := by have := HK.out; omega
        have hz0 : ¬ ((k + c : Nat) : Int) = 0 := by omega
        go_wp2_with (first
          | refine wpList_op rfl (.slice 22 (.tmp 17) (some (.tmp 20)) none none) 22 (.slice (some ⟨y, 0 + k, none⟩) (128 - k) (128 - k)) rfl rfl (exec_sliceAt _ _ _ _ _ _ k Try.underlying22 (by kernel_rfl) rfl rfl rfl (by omega) (by omega) rfl rfl rfl) ?_
          | (refine wpList_copy_bytes rfl (.tmp 21) (.tmp 22) rfl hM.row HB.out rfl rfl (by omega) c (by rw [List.length_drop, HL.out]; exact HC.out) ?_; intro w2 hr2 hg2 hs2
             have hM2 := hM.copied (k := k) (by omega) (by omega) hr2 hg2
             have HB2 := Lib.hid (HB.out.touched (Tch.right hg2) hax hay)
             clear HB)
          | (refine wpList_bsFrom rfl (.tmp 24) (.tmp 25) rfl HB2.out c rfl rfl rfl (by omega) ?_; intro ad' had' hB3
             have HA := Lib.hid had'
             have HB3 := Lib.hid hB3
             clear had' hB3))
        go_roundw
        case rel =>
          have hdd : l.drop (j + c) = (l.drop j).drop c := by rw [List.drop_drop]
          have htt : m ++ l.take (j + c) = (m ++ l.take j) ++ (l.drop j).take c := by rw [List.append_assoc, List.take_add]
          have hmod : (m ++ l.take j).length % k512.block = k := by rw [HQ.out]; exact HK.out.symm
          refine ⟨j + c, ad', cap - c, _, _, q + c, by omega, ?_, by have := hq.out; show _ = _; omega, by go_num, by rw [Nat.sub_sub], ?_, ?_, ?_, hM2, ?_, ht.trans (Tch.right hg2)⟩
          · show _ = _
            rw [htt, List.length_append, HQ.out, List.length_take, List.length_drop, HL.out]
            omega
          · rw [hdd, ← Nat.sub_sub]
            exact HB3.out
          · rw [HA.out]; exact hax.drop (by omega)
          · rw [HA.out]; exact hay.drop (by omega)
          · have hf := hD.short (l.drop j) c (by rw [List.length_drop, HL.out]; exact hc1) (by rw [hmod]; show k + c < 128; omega)
            rw [hmod] at hf
            rw [htt]
            exact hf
        case measure => have := hq.out; simp [intOf]; omega
    · obtain rfl : j = n0 := by omega
      go_wp2
      go_ret
      refine ⟨?_, s, blk, hM, ?_, ht⟩
      · have e1 := hq.out
        have e2 := HL.out
        subst e2
        rw [e1]
        rfl
      · rw [← HL.out, List.take_length] at hD
        exact hD
end Go.Proofs.Ytonhpmaiagbheaa

/- Hash256: Add. -/
set_option linter.unusedSimpArgs false
set_option linter.unusedVariables false
namespace Go.Proofs.Ytonhpmaiagbheaa
open Go.RowKit Go.Deep

end Go.Proofs.Ytonhpmaiagbheaa

/- Hash256: Copy and Sum; Sum256. -/
set_option linter.unusedSimpArgs false
set_option linter.unusedVariables false
namespace Go.Proofs.Ytonhpmaiagbheaa
open Go.RowKit Go.Deep

theorem out_length {n : Nat} (k : Kind n) (s : S8 n) (b : Nat) (hb : k.bytes = b) : ∀ j, (k.out s j).length = b * j
  | 0 => rfl
  | j + 1 => by
    show (k.out s j ++ bigB (s.at j).toNat k.bytes).length = _
    rw [List.length_append, out_length k s b hb j, bigB_length, hb, Nat.mul_succ]
/-- A slice of the call's own stands behind calls that make no more than new blocks. -/
theorem Owns.below {w w' : World} {base : Nat} {v : Value} {l : List UInt8} (h : Owns w base v l) (hb : Below w.heap.size w w') : Owns w' base v l := by
  obtain ⟨h1, h2⟩ := h
  refine ⟨h1, ?_⟩
  rcases h2 with h2 | ⟨g, cap, cur, rfl, hbg, hg, h3⟩
  · exact .inl h2
  · exact .inr ⟨g, cap, cur, rfl, hbg, (hb.block g (Array.getElem?_eq_some_iff.1 hg).1).trans hg, h3⟩

end Go.Proofs.Ytonhpmaiagbheaa

/- Sum256 and Sum512 of rows; the Hash256 that is nil. -/
set_option linter.unusedSimpArgs false
set_option linter.unusedVariables false
namespace Go.Proofs.Ytonhpmaiagbheaa
open Go.RowKit Go.Deep

end Go.Proofs.Ytonhpmaiagbheaa

/- Sum512 of rows. -/
set_option linter.unusedSimpArgs false
set_option linter.unusedVariables false
namespace Go.Proofs.Ytonhpmaiagbheaa
open Go.RowKit Go.Deep

theorem zero128 : (Try.prog.info? 86).map (fun i => i.zero) = some (some (.agg (arrOf 128 (u8f (lst 128 fun _ => 0))))) := by kernel_rfl
theorem M512.drew {w : World} {x y z : Nat} {s : S8 64} {blk : Nat → UInt8} (h : M512 w x y s blk z) : M512 w.drew x y s blk z := ⟨h.ne, h.state.drew, h.row.drew⟩
theorem M512.below {w w' : World} {x y z B : Nat} {s : S8 64} {blk : Nat → UInt8} (h : M512 w x y s blk z) (hb : Below B w w') (hB : w.heap.size ≤ B) : M512 w' x y s blk z :=
  ⟨h.ne, h.state.of_block (hb.block _ (Nat.lt_of_lt_of_le h.state.lt hB)), h.row.of_block (hb.block _ (Nat.lt_of_lt_of_le h.row.lt hB))⟩
theorem Away.of_slice {x : Addr} {n c b : Nat} (h : x.block ≠ b) : Away (.slice (some x) n c) b := fun x' n' c' he _ => by cases he; exact h

set_option maxHeartbeats 4000000 in
theorem sum512_any (v : Value) (L : List (List UInt8)) (w : World) (hv : Bss w v L) (hlen : L.flatten.length < 2 ^ 59) :
    Calls Try.prog 31 #[v] w fun e w' => ∃ v', e = .returned v' ∧ Bs w' v' (k512.sum L.flatten) ∧ Below w.heap.size w w' := by
  have HV := Lib.hid hv
  obtain ⟨a, cap, rfl, h1, h2, h3, h4⟩ := hv
  clear h3 h4
  unfold maxLen at h2
  have hmf : ∀ (fn : Fn) (first cap : Array Value) (w : World), (Instr.makeFunc fn first cap).run Try.prog w = .ok (.func fn first cap) w := fun _ _ _ _ => rfl
  go_enter Try.func31, Try.ntmps31
  go_wp2_with (first
    | (go_at_call 54; refine (start512_any _).mono ?_; rintro e w1 ⟨rfl, hb1⟩
       have hS0 := rowIs_arr w1 8 (fun _ => .int .u64 0) 84
       have hb := hb1.alloc hb1.size (.cells (arrOf 8 fun _ => .int .u64 0) 84)
       have hsz := hb1.size
       clear hb1)
    | refine wpList_alloc_arr rfl 84 rfl (arrOf 8 fun _ => .int .u64 0) zero8_64 ?_
    | (refine wpList_store_arr rfl 84 (.tmp 3) (.tmp 12) rfl 8 arr8_64 hS0 rfl rfl (by omega) (fun _ _ => rfl) ?_; intro w2 hr2 hg2 hs2
       have hM : M512 (w2.alloc (.cells (arrOf 128 (u8f (lst 128 fun _ => 0))) 86)) w1.heap.size w2.heap.size k512.first (fun _ => 0) 0 :=
         ⟨by rw [hs2, World.size_alloc]; omega, (hr2.congr fun i hi => by
            unfold putN
            rw [if_pos (by omega), Nat.sub_zero]
            show Value.int .u64 ((I64 i).toNat : Int) = Value.int .u64 (((S8.of I64).at i).toNat : Int)
            rw [S8.at_of _ _ hi]).alloc _, rowIs_arr w2 128 _ _⟩
       replace hb := (hb.grown hg2 hb.size (by intro k hk; cases hk; omega))
       replace hb := hb.alloc hb.size (.cells (arrOf 128 (u8f (lst 128 fun _ => 0))) 86)
       have hsz2 : w.heap.size ≤ w2.heap.size := by rw [hs2, World.size_alloc]; omega
       clear hr2 hg2 hs2 hS0)
    | refine wpList_alloc_arr rfl 86 rfl (arrOf 128 (u8f (lst 128 fun _ => 0))) zero128 ?_)
  generalize w1.heap.size = x at *
  generalize w2.heap.size = y at *
  go_loopw [6, 16] (fun size i wr => ∃ (j : Nat) (s : S8 64) (blk : Nat → UInt8) (q : Nat), j ≤ L.length ∧ i = .int .i64 j ∧ size = .int .u64 (q : Int) ∧ Hid ((catTo L j).length = q) ∧ M512 wr x y s blk 0 ∧ Dig k512 (catTo L j) s blk ∧ Below w.heap.size w wr) (fun _ i _ => L.length - (intOf i).toNat)
  case atStart => exact ⟨0, k512.first, fun _ => 0, 0, Nat.zero_le _, rfl, rfl, rfl, hM, (by rw [show catTo L 0 = [] from rfl]; exact ⟨rfl, fun i hi => by simp at hi⟩), hb⟩
  case round =>
    clear hM hb
    obtain ⟨j, s, blk, q, hj, rfl, rfl, HQ, hM, hD, hbel⟩ := hrel
    by_cases hlt : j < L.length
    · have hsum : (catTo L j).length + L[j].length ≤ L.flatten.length := by
        have := catTo_le L (j + 1)
        rw [catTo_succ L j hlt, List.length_append] at this
        exact this
      obtain ⟨b, off, cap', he, _, _, hbl, hc⟩ := HV.out.open_cons (by omega)
      cases he
      obtain ⟨u, hcj, hu⟩ := hc j hlt
      clear hc
      have hcr : wr.cell? ⟨b, off + j, none⟩ = some u := (hbel.cell (by exact hbl)).trans hcj
      have HU := Lib.hid (hu.below hbel (Nat.le_refl _))
      have HA1 : Away u x := hu.away hsz
      have HA2 : Away u y := hu.away hsz2
      clear hu
      have hcut := cut512_any x y s blk 0 (catTo L j) L[j] u wr hM hD HU.out HA1 HA2 (by omega)
      rw [HQ.out] at hcut
      go_wp2_with (first
        | refine wpList_op rfl (.slice 86 (.tmp 4) none none none) 22 (.slice (some ⟨y, 0, none⟩) 128 128) rfl rfl (exec_sliceAll _ _ _ _ _ Try.underlying86 (by kernel_rfl) rfl (by omega)) ?_
        | (go_at_call 57; refine hcut.mono ?_; rintro e w3 ⟨rfl, s3, blk3, hM3, hD3, ht3⟩))
      rw [← catTo_succ L j hlt] at hD3
      have hbel3 : Below w.heap.size w w3 := hbel.trans (ht3.below hsz hsz2 hbel.size)
      have HQ3 : Hid ((catTo L (j + 1)).length = q + L[j].length) := by
        show _ = _
        rw [catTo_succ L j hlt, List.length_append, HQ.out]
      clear hM hD hbel hcr HU HA1 HA2 ht3 hcut
      go_wp2
      go_roundw
      case rel => exact ⟨j + 1, s3, blk3, q + L[j].length, by omega, by go_num, rfl, HQ3, hM3, hD3, hbel3⟩
      case measure => simp [intOf]; omega
    · obtain rfl : j = L.length := by omega
      rw [catTo_all L L.length (Nat.le_refl _)] at hD HQ
      have hq59 : q < 2 ^ 59 := by have := HQ.out; omega
      go_wp2
      refine wp_region_lins [(0, some [5]), (1, some [5]), (2, some [3]), (4, some [5]), (3, none), (5, none)] (fun _ _ => True) (by kernel_rfl) (by kernel_rfl) (by decide) (by kernel_rfl) (fun d _ _ _ _ h => by cases d <;> exact h) (fun _ _ => trivial) ?_
      refine lins_read 26 (Op.slice 86 (Operand.tmp 4) none none none) 22 (.slice (some ⟨y, 0, none⟩) 128 128) rfl rfl rfl rfl rfl (fun w0 hw0 => by exact exec_sliceAll _ _ _ _ _ Try.underlying86 (by kernel_rfl) rfl (by omega)) ?_
      simp only [Act.put, List.setIfInBounds_toArray, List.set_cons_zero, List.set_cons_succ]
      refine lins_read 27 (Op.move (Operand.tmp 6)) 47 _ rfl rfl rfl rfl rfl (fun w0 hw0 => by unfold mkOp; go_simp; all_goals (with_reducible rfl)) ?_
      simp only [Act.put, List.setIfInBounds_toArray, List.set_cons_zero, List.set_cons_succ]
      refine lins_read 28 (Op.move (Operand.tmp 6)) 47 _ rfl rfl rfl rfl rfl (fun w0 hw0 => by unfold mkOp; go_simp; all_goals (with_reducible rfl)) ?_
      simp only [Act.put, List.setIfInBounds_toArray, List.set_cons_zero, List.set_cons_succ]
      refine lins_read 30 (Op.move (Operand.tmp 5)) 1 _ rfl rfl rfl rfl rfl (fun w0 hw0 => by unfold mkOp; go_simp; all_goals (with_reducible rfl)) ?_
      simp only [Act.put, List.setIfInBounds_toArray, List.set_cons_zero, List.set_cons_succ]
      refine lins_fn (some 29) 58 #[Operand.tmp 28, Operand.const (Value.int IntKind.i64 128)] #[47, 3] _ (ending128_any q _ (by omega)) rfl rfl rfl rfl Try.func58 (by kernel_rfl) (by kernel_rfl) (by go_simp) ?_
      rintro e w5 ⟨v5, rfl, hB5, hb5, c5, hv5⟩
      have hM5 := hM.drew.below hb5 (Nat.le_refl _)
      refine ⟨_, rfl, fun _ _ => True, fun _ _ => ⟨trivial, fun _ _ => trivial⟩, ?_⟩
      simp only [Act.put, List.setIfInBounds_toArray, List.set_cons_zero, List.set_cons_succ]
      refine lins_fn (some 31) 57 #[Operand.tmp 26, Operand.tmp 27, Operand.tmp 29, Operand.tmp 30] #[22, 47, 22, 1] _ (cut512_any x y s blk 0 L.flatten _ _ _ hM5 hD hB5 (hv5 ▸ Away.of_slice (by show wr.heap.size ≠ x; have := hM.state.lt; omega)) (hv5 ▸ Away.of_slice (by show wr.heap.size ≠ y; have := hM.row.lt; omega)) (by rw [endOf_length _ _ (by omega)]; have := (endRoom_ge q 128 (by omega)).2; have := HQ.out; omega)) rfl rfl rfl rfl Try.func57 (by kernel_rfl) (by kernel_rfl) (by rw [show L.flatten.length = q from HQ.out]; go_simp) ?_
      rintro e w6 ⟨rfl, s6, blk6, hM6, hD6, ht6⟩
      refine ⟨_, rfl, fun _ _ => True, fun _ _ => ⟨trivial, fun _ _ => trivial⟩, ?_⟩
      simp only [Act.put, List.setIfInBounds_toArray, List.set_cons_zero, List.set_cons_succ]
      refine lins_end ?_
      have hout : k512.out s6 8 = k512.sum L.flatten := Dig.sum (by have := hD6; rw [← HQ.out] at this; exact this)
      have hb6 : Below w.heap.size w w6 := (hbel.drew.trans (hb5.mono hbel.size)).trans (ht6.below hsz hsz2 (Nat.le_trans hbel.size hb5.size))
      have HS := Lib.hid hout
      clear hout hD6 hb5 hB5 hM5 hv5 hD HQ hM hbel ht6
      go_wp2_with (first
        | refine wpList_load_arr rfl 84 (.tmp 3) rfl 8 arr8_64 hM6.state rfl (by omega) ?_)
      go_loopw [9, 33] (fun out i wr => ∃ j : Nat, j ≤ 8 ∧ i = .int .i64 j ∧ Owns wr w.heap.size out (k512.out s6 j) ∧ Below w.heap.size w wr) (fun _ i _ => 8 - (intOf i).toNat)
      case atStart => exact ⟨0, Nat.zero_le _, rfl, Owns.nil _ _, hb6⟩
      case round =>
        clear hb6 hM6
        obtain ⟨j, hj, rfl, hown, hbel⟩ := hrel
        by_cases hlt : j < 8
        · have hw : w64 s6.at j = .int .u64 ((s6.at j).toNat : Int) := rfl
          have hol : (k512.out s6 j).length = 8 * j := out_length k512 s6 8 rfl j
          go_wp2_with (first
            | refine wpList_index_arr rfl 84 47 (.tmp 32) (.tmp 33) rfl 8 Try.underlying84 _ Try.underlying47 rfl (by kernel_rfl) rfl rfl hlt ?_
            | (go_at_call 59; refine (put64_any (s6.at j).toNat _ (s6.at j).isLt).mono ?_; rintro e w5 ⟨v5, rfl, hB5, hb5⟩
               have hown5 : Owns w5 w.heap.size _ (k512.out s6 j) := hown.below hb5
               have hbel5 := hbel.trans (hb5.mono hbel.size)
               clear hb5)
            | (refine wpList_app rfl _ _ rfl w.heap.size _ _ (k512.out s6 j) _ hown5 hB5 rfl rfl (by rw [hol, bigB_length]; omega) hbel5.size ?_; intro v6 w6 hown6 hgrow6))
          have hbel6 : Below w.heap.size w w6 := hbel5.grown hgrow6 hbel5.size (Owns.block hown5)
          clear hown5 hgrow6 hB5
          go_wp2
          go_roundw
          case rel => exact ⟨j + 1, by omega, by go_num, hown6, hbel6⟩
          case measure => simp [intOf]; omega
        · obtain rfl : j = 8 := by omega
          go_wp2
          go_ret
          exact ⟨_, rfl, by rw [← HS.out]; exact hown.bs, hbel⟩
end Go.Proofs.Ytonhpmaiagbheaa

/- The program's signatures: rows of rows joined, number, clamped. -/
namespace Go.Proofs.Ytonhpmaiagbheaa
open Go.RowKit Go.Deep
set_option linter.unusedSimpArgs false
set_option linter.unusedVariables false

theorem infoRow : (Try.prog.info? 22).map (fun i => (i.zero, i.size, i.bytes)) = some (some (.slice none 0 0), 1, 24) := by kernel_rfl
theorem Bss.cellsU {w : World} {x : Addr} {L : List (List UInt8)} (h : ∀ i (h : i < L.length), ∃ u, w.cell? (x.add i) = some u ∧ Bs w u L[i]) :
    ∃ us : List Value, us.length = L.length ∧ (∀ j u, us[j]? = some u → w.cell? (x.add j) = some u) ∧ ∀ j (hj : j < L.length), ∃ u, us[j]? = some u ∧ Bs w u L[j] := by
  refine ⟨(List.range L.length).map fun i => (w.cell? (x.add i)).getD undef, by simp, fun j u hj => ?_, fun j hj => ?_⟩
  · have hl : j < L.length := by have := (List.getElem?_eq_some_iff.1 hj).1; simpa using this
    obtain ⟨u', h1, _⟩ := h j hl
    rw [List.getElem?_map, List.getElem?_range hl, Option.map_some, h1, Option.getD_some] at hj
    rw [h1, hj]
  · obtain ⟨u', h1, h2⟩ := h j hj
    refine ⟨u', ?_, h2⟩
    rw [List.getElem?_map, List.getElem?_range hj, Option.map_some, h1, Option.getD_some]
set_option maxRecDepth 10000 in
theorem exec_appRows {w : World} (ρ : Operand → Value) (s x : Operand) (t : TypeId) (ad : Addr) (n : Nat) (v0 : Value) (A L : List (List UInt8)) (hA : Bss w (.slice (some ad) n n) A) (hL : Bss w v0 L) (hs : ρ s = .slice (some ad) n n) (hx : ρ x = v0) (hlen : A.length + L.length ≤ 2147483647) :
    ∃ v' w', (execOp ρ (mkOp (.call { callee := .builtin .append, args := #[s, x], argTypes := #[23, 23] }) t)).run Try.prog w = .ok (.value v') w' ∧ Bss w' v' (A ++ L) ∧ Below w.heap.size w w' := by
  obtain ⟨i0, hi, hz0, hz1, hz2⟩ := info_parts infoRow
  obtain ⟨a2, cap2, rfl, g1, g2, g3, g4⟩ := hL
  have hA' := hA
  obtain ⟨a1, cap1, he, k1, k2, k3, k4⟩ := hA'
  injection he with he1 he2 he3
  subst he1 he2 he3
  by_cases hL0 : L.length = 0
  · obtain rfl : L = [] := List.eq_nil_of_length_eq_zero hL0
    refine ⟨_, w, ?_, by rw [List.append_nil]; exact hA, Below.refl _ _⟩
    have hrun : (Builtin.append_ #[23, 23] t #[.slice (some ad) A.length A.length, .slice a2 0 cap2]).run Try.prog w = .ok (.slice (some ad) A.length A.length) w := by
      cases a2 <;> simp [Builtin.append_, run_underlying Try.underlying23, sizeOf, typeInfo, hi, Builtin.lenOf, Builtin.firstCells, storeCells, loadCells, loadCellsFrom]
    simp [execOp, mkOp, resolve, invoke, builtin, hs, hx, hrun, Result.andThen]
  · cases a2 with
    | none => exact absurd (by have := g3 rfl; omega) hL0
    | some a2 =>
      obtain ⟨us, u1, u2, u3⟩ := Bss.cellsU (fun i h => (k4 _ rfl i h).2)
      obtain ⟨vs, v1, v2, v3⟩ := Bss.cellsU (fun i h => (g4 _ rfl i h).2)
      obtain ⟨v', w', hrun, r1, r2⟩ := run_append_arg_grows (P := Try.prog) w 23 t 22 i0 (.slice none 0 0) 1 24 Try.underlying23 hi hz0 hz1 hz2 rfl (by decide) ad A.length A.length us (by omega) u2 a2 L.length cap2 vs (by omega) v2 (by omega) (by unfold maxLen; omega) (by omega)
      refine ⟨v', w', ?_, ?_, ⟨r2.os, r2.tape, r2.output, r2.size, fun k hk => r2.block k hk (by simp)⟩⟩
      · simp [execOp, mkOp, resolve, invoke, builtin, hs, hx, hrun, Result.andThen]
      · have hb : Below w.heap.size w w' := ⟨r2.os, r2.tape, r2.output, r2.size, fun k hk => r2.block k hk (by simp)⟩
        rcases r1.2 with ⟨_, hn⟩ | ⟨g, cap, cur, rfl, hbg, hg, hnc, hcm, hcs, htake⟩
        · omega
        · refine ⟨some ⟨g, 0, none⟩, cap, by rw [List.length_append], by rw [List.length_append]; exact hnc, hcm, fun h => (by cases h), fun x hx i hi => ?_⟩
          cases hx
          have hil : i < A.length + L.length := by rw [← List.length_append]; exact hi
          refine ⟨(Array.getElem?_eq_some_iff.1 hg).1, ?_⟩
          rw [Addr.add_lit, Nat.zero_add]
          have hc := World.ownsRow.cellAt r1 i (by omega)
          rw [hc]
          by_cases h : i < A.length
          · obtain ⟨u, e1, e2⟩ := u3 i h
            refine ⟨u, by rw [List.getElem?_append_left (by omega)]; exact e1, ?_⟩
            rw [List.getElem_append_left h]
            exact e2.below hb (Nat.le_refl _)
          · obtain ⟨u, e1, e2⟩ := v3 (i - A.length) (by omega)
            refine ⟨u, by rw [List.getElem?_append_right (by omega), u1]; exact e1, ?_⟩
            rw [List.getElem_append_right (by omega)]
            exact e2.below hb (Nat.le_refl _)
theorem wpList_appRows {ops : Array Oper} {rest : List Oper} {o : Oper} {a : Act} {w : World} {Q : Exit → Act → World → Prop} (hgd : o.guard = none) (s x : Operand) (ho : o.op = .call { callee := .builtin .append, args := #[s, x], argTypes := #[23, 23] })
    {ad : Addr} {n : Nat} {v0 : Value} {A L : List (List UInt8)} (hA : Bss w (.slice (some ad) n n) A) (hL : Bss w v0 L) (hlen : A.length + L.length ≤ 2147483647) (hs : a.eval s = .slice (some ad) n n) (hx : a.eval x = v0)
    (h : ∀ v w', Bss w' v (A ++ L) → Below w.heap.size w w' → wpList Try.prog ops Q rest (a.put o.dst v) w') : wpList Try.prog ops Q (o :: rest) a w := by
  obtain ⟨v', w', hr, h1, h2⟩ := exec_appRows a.eval s x o.type ad n v0 A L hA hL hs hx hlen
  exact wpList_plain hgd fun _ hK => by
    unfold Oper.wp
    rw [exec_mkOp, ho, hr]
    exact hK _ _ (h _ _ h1 h2)
theorem wpList_rowsF1 {ops : Array Oper} {rest : List Oper} {o : Oper} {a : Act} {w : World} {Q : Exit → Act → World → Prop} (hgd : o.guard = none) (x : Operand) (ho : o.op = .buildSlice 23 1 #[(0, x)]) {v1 : Value} {l1 : List UInt8} (h1 : Bs w v1 l1) (hx : a.eval x = v1)
    (h : ∀ ad w', Bss w' (.slice (some ad) 1 1) [l1] → Below w.heap.size w w' → wpList Try.prog ops Q rest (a.put o.dst (.slice (some ad) 1 1)) w') : wpList Try.prog ops Q (o :: rest) a w := by
  have hr := exec_rowsP1 a.eval x o.type w h1 hx
  exact wpList_plain hgd fun _ hK => by
    unfold Oper.wp
    rw [exec_mkOp, ho, hr]
    exact hK _ _ (h _ _ (Bss.one h1 rfl) ((Below.refl _ _).alloc (Nat.le_refl _) _))
theorem wpList_rowsF2 {ops : Array Oper} {rest : List Oper} {o : Oper} {a : Act} {w : World} {Q : Exit → Act → World → Prop} (hgd : o.guard = none) (x y : Operand) (ho : o.op = .buildSlice 23 2 #[(0, x), (1, y)]) {v1 v2 : Value} {l1 l2 : List UInt8} (h1 : Bs w v1 l1) (h2 : Bs w v2 l2) (hx : a.eval x = v1) (hy : a.eval y = v2)
    (h : ∀ ad w', Bss w' (.slice (some ad) 2 2) [l1, l2] → Below w.heap.size w w' → wpList Try.prog ops Q rest (a.put o.dst (.slice (some ad) 2 2)) w') : wpList Try.prog ops Q (o :: rest) a w := by
  have hr := exec_rowsP2 a.eval x y o.type w h1 h2 hx hy
  exact wpList_plain hgd fun _ hK => by
    unfold Oper.wp
    rw [exec_mkOp, ho, hr]
    exact hK _ _ (h _ _ (Bss.two h1 h2 rfl) ((Below.refl _ _).alloc (Nat.le_refl _) _))
set_option maxHeartbeats 4000000 in
set_option maxRecDepth 10000 in
theorem number_to (v0 : Value) (ad : Addr) (n : Nat) (A L : List (List UInt8)) (V : Nat) (w : World) (hL : Bss w v0 L) (hA : Bss w (.slice (some ad) n n) A) (hle : A.length + L.length ≤ 2147483647) (hll : (A ++ L).flatten.length < 2 ^ 59) (hN : numL (k512.sum (A ++ L).flatten) 64 % ordL = V) :
    Calls Try.prog 24 #[v0, .slice (some ad) n n] w fun e w' => e = .returned (.agg (arrOf 4 (ewF V))) ∧ Below w.heap.size w w' := by
  have HLE := Lib.hid hle
  have HLL := Lib.hid hll
  have HNV := Lib.hid hN
  have HA := Lib.hid hA
  clear hle hll hN hA
  have Bw0 := Below.refl w.heap.size w
  have HGS : Hid (∀ wq : World, Below w.heap.size w wq → w.heap.size ≤ wq.heap.size) := Lib.hid fun wq h => h.size
  go_enter Try.func24, Try.ntmps24
  go_wp2_with (first
    | (have hgo := Bw0; clear hgo
       refine wpList_alloc_row rfl 56 rfl 4 (u64f fun _ => 0) zeroS ?_
       intro b_t4 w1 lk r_t4 kk
       have l_t4 := zrl HGS Bw0 lk
       have Bw1 := zbt HGS Bw0 kk
       clear Bw0 kk lk)
    | (have hgo := Bw1; clear hgo
       refine wpList_appRows rfl (.tmp 5) (.tmp 6) rfl (HA.out.below Bw1 (Nat.le_refl _)) (hL.below Bw1 (Nat.le_refl _)) HLE.out rfl rfl ?_
       intro v_r7 w2 F_r7 kk
       replace r_t4 := zrb r_t4 kk
       have Bw2 := zbt HGS Bw1 kk
       clear Bw1 kk)
    | (have hgo := Bw2; clear hgo
       go_at_call 31
       refine (sum512_any _ _ _ F_r7 HLL.out).mono ?_
       rintro e w3 ⟨v_s, rfl, f_s, kk⟩
       replace r_t4 := zrb r_t4 kk
       have Bw3 := zbt HGS Bw2 kk
       clear Bw2 kk
       clear F_r7)
    | (have hgo := Bw3; clear hgo
       go_at_call 45
       refine (sWide_to _ _ _ f_s V HNV.out).mono ?_
       rintro e w4 ⟨rfl, kk⟩
       replace r_t4 := zrb r_t4 kk
       replace f_s := zfb f_s kk
       have Bw4 := zbt HGS Bw3 kk
       clear Bw3 kk)
    | (have hgo := Bw4; clear hgo
       refine wpList_store_as rfl 56 (.tmp 4) (.tmp 9) rfl 4 (ewF V) arrS r_t4 rfl rfl (by omega) (fun _ _ => rfl) (fun i hi => putN_whole hi) ?_
       intro w5 q gk
       replace r_t4 := q
       have Bw5 := zbg HGS Bw4 gk l_t4
       clear f_s
       clear Bw4 gk q))
  exact ret_cell_as _ rfl arrS r_t4 rfl (by omega) (fun _ _ => rfl) rfl ⟨rfl, Bw5⟩
theorem clampL_eq (l : List UInt8) (h : l.length = 32) (x y : Nat) (hx : x = (l.getD 0 0).toNat) (hy : y = (l.getD 31 0).toNat) : (l.set 0 (UInt8.ofNat (x / 8 * 8))).set 31 (UInt8.ofNat (y % 64 + 64)) = litB (clampN l) 32 := by
  refine List.ext_getElem (by simp [litB_length, h]) fun i h1 h2 => ?_
  have hi : i < 32 := by simpa [litB_length] using h2
  have e : (litB (clampN l) 32)[i]'h2 = UInt8.ofNat (byteN (clampN l) i) := by
    rw [litB_at]
    unfold byteN
    apply UInt8.toNat_inj.1
    rw [UInt8.toNat_ofNat', UInt8.toNat_ofNat', Nat.mod_mod]
  rw [e, List.getElem_set]
  by_cases h31 : 31 = i
  · subst h31
    rw [if_pos rfl, clamp_high, hy]
  · rw [if_neg h31, List.getElem_set]
    by_cases h0 : 0 = i
    · subst h0
      rw [if_pos rfl, clamp_low, hx]
    · rw [if_neg h0, clamp_mid l i (by omega) (by omega), List.getD_eq_getElem?_getD, List.getElem?_eq_getElem (by omega), Option.getD_some, UInt8.ofNat_toNat]
theorem andNot7E (x : Nat) (h : x < 256) : bits .andNot .u8 (x : Int) 7 = ((x / 8 * 8 : Nat) : Int) := by
  have g : ∀ q : Fin 256, bits .andNot .u8 ((q.val : Nat) : Int) 7 = ((q.val / 8 * 8 : Nat) : Int) := by decide +kernel
  exact g ⟨x, h⟩
theorem and127E (x : Nat) (h : x < 256) : bits .and .u8 (x : Int) 127 = ((x % 128 : Nat) : Int) := by
  have g : ∀ q : Fin 256, bits .and .u8 ((q.val : Nat) : Int) 127 = ((q.val % 128 : Nat) : Int) := by decide +kernel
  exact g ⟨x, h⟩
theorem or64E (x : Nat) (h : x < 256) : bits .or .u8 ((x % 128 : Nat) : Int) 64 = ((x % 64 + 64 : Nat) : Int) := by
  have g : ∀ q : Fin 256, bits .or .u8 ((q.val % 128 : Nat) : Int) 64 = ((q.val % 64 + 64 : Nat) : Int) := by decide +kernel
  exact g ⟨x, h⟩
set_option maxHeartbeats 4000000 in
set_option maxRecDepth 10000 in
theorem clamped_to (v0 : Value) (l0 : List UInt8) (V : Nat) (w : World) (h0 : Bs w v0 l0) (hl : l0.length = 32) (hN : numL (litB (clampN l0) 32) 64 % ordL = V) :
    Calls Try.prog 32 #[v0] w fun e w' => e = .returned (.agg (arrOf 4 (ewF V))) ∧ Below w.heap.size w w' := by
  have HL := Lib.hid hl
  have HNV := Lib.hid hN
  have HF_b0 := Lib.hid h0
  have f_b0 := h0
  obtain ⟨x, hx⟩ := nat_var ((l0.getD 0 0).toNat)
  obtain ⟨y, hy⟩ := nat_var ((l0.getD 31 0).toNat)
  have hxl : x < 256 := by rw [hx]; exact UInt8.toNat_lt _
  have hyl : y < 256 := by rw [hy]; exact UInt8.toNat_lt _
  have a1 := andNot7E x hxl
  have a2 := and127E y hyl
  have a3 := or64E y hyl
  have HCL := Lib.hid (clampL_eq l0 hl x y hx hy)
  obtain ⟨u, hu⟩ := nat_var (x / 8 * 8)
  obtain ⟨z, hz⟩ := nat_var (y % 128)
  obtain ⟨s, hs⟩ := nat_var (y % 64 + 64)
  rw [← hu] at a1 HCL
  rw [← hz] at a2 a3
  rw [← hs] at a3 HCL
  have HUL : Hid (u < 256) := Lib.hid (by omega)
  have HSL : Hid (s < 256) := Lib.hid (by omega)
  have HX : Hid (∀ h : 0 < l0.length, (l0[0]'h).toNat = x) := Lib.hid fun h => by rw [hx, List.getD_eq_getElem?_getD, List.getElem?_eq_getElem h]; rfl
  have HY : Hid (∀ h : 31 < (l0.set 0 (UInt8.ofNat u)).length, ((l0.set 0 (UInt8.ofNat u))[31]'h).toNat = y) := Lib.hid fun h => by rw [List.getElem_set_ne (by decide), hy, List.getD_eq_getElem?_getD, List.getElem?_eq_getElem (by rw [hl]; decide)]; rfl
  have HL2 : Hid ((l0.set 0 (UInt8.ofNat u)).length = 32) := Lib.hid (by rw [List.length_set, HL.out])
  clear h0 hN hx hy hxl hyl hu hz hs hl
  have Bw0 := Below.refl w.heap.size w
  have HGS : Hid (∀ wq : World, Below w.heap.size w wq → w.heap.size ≤ wq.heap.size) := Lib.hid fun wq h => h.size
  go_enter Try.func32, Try.ntmps32
  go_wp2_with (first
    | (have hgo := Bw0; clear hgo
       refine wpList_alloc_row rfl 56 rfl 4 (u64f fun _ => 0) zeroS ?_
       intro b_t2 w1 lk r_t2 kk
       have l_t2 := zrl HGS Bw0 lk
       have a_b0_t2 := Bs.away f_b0 lk
       replace f_b0 := zfb f_b0 kk
       have Bw1 := zbt HGS Bw0 kk
       clear Bw0 kk lk)
    | (have hgo := Bw1; clear hgo
       refine wpList_rows1 rfl (.tmp 3) rfl f_b0 rfl ?_
       intro v_r4 w2 F_r4 kk
       replace r_t2 := zrb r_t2 kk
       replace f_b0 := zfb f_b0 kk
       have Bw2 := zbt HGS Bw1 kk
       clear Bw1 kk)
    | (have hgo := Bw2; clear hgo
       go_at_call 33
       refine (cat_any _ _ _ F_r4 (by rw [List.flatten_singleton, HL.out]; decide)).mono ?_
       rintro e w3 ⟨v_c, rfl, o_c, kk⟩
       rw [List.flatten_singleton] at o_c
       clear F_r4
       obtain ⟨g, cap, hv, hg, hgs, _, _⟩ := o_c.open_cons (by rw [HL.out]; decide)
       rw [HL.out] at hv
       subst hv
       have n_c : b_t2 ≠ g := Nat.ne_of_lt (Nat.lt_of_lt_of_le (World.rowIs.lt r_t2) hg)
       have HCAP : Hid (32 ≤ cap) := Lib.hid (owns_cap o_c)
       have HGB : Hid (w.heap.size ≤ g) := Lib.hid (Nat.le_trans (HGS.out _ Bw2) hg)
       replace o_c := o_c.lower (HGS.out _ Bw2)
       clear hg hgs
       replace r_t2 := zrb r_t2 kk
       replace f_b0 := zfb f_b0 kk
       have Bw3 := zbt HGS Bw2 kk
       clear Bw2 kk)
    | (have hgo := Bw3; clear hgo
       refine wpList_load_byte rfl (.tmp 7) rfl 0 x o_c HL.out.symm (by rw [HL.out]; decide) rfl (HX.out _) ?_
       have Bw4 := Bw3
       clear Bw3)
    | (have hgo := Bw4; clear hgo
       refine wpList_store_byte rfl (.tmp 10) (.tmp 9) rfl 0 u o_c HL.out.symm HCAP.out (by rw [HL.out]; decide) rfl rfl HUL.out ?_
       intro w4 o_d gk
       have Bw5 := Bw4.grown gk (HGS.out _ Bw4) (by intro k hk; cases hk; exact HGB.out)
       replace r_t2 := gb_rowIs r_t2 gk n_c
       replace f_b0 := HF_b0.out.below Bw5 (Nat.le_refl _)
       clear Bw4 gk o_c )
    | (have hgo := Bw5; clear hgo
       refine wpList_load_byte rfl (.tmp 19) rfl 31 y o_d HL2.out.symm (by rw [HL2.out]; decide) rfl (HY.out _) ?_
       have Bw6 := Bw5
       clear Bw5)
    | (have hgo := Bw6; clear hgo
       refine wpList_store_byte rfl (.tmp 23) (.tmp 22) rfl 31 s o_d HL2.out.symm HCAP.out (by rw [HL2.out]; decide) rfl rfl HSL.out ?_
       intro w5 o_e gk
       have Bw7 := Bw6.grown gk (HGS.out _ Bw6) (by intro k hk; cases hk; exact HGB.out)
       replace r_t2 := gb_rowIs r_t2 gk n_c
       replace f_b0 := HF_b0.out.below Bw7 (Nat.le_refl _)
       have f_d := o_e.bs
       rw [HCL.out] at f_d
       clear Bw6 gk o_d o_e)
    | (have hgo := Bw7; clear hgo
       go_at_call 45
       refine (sWide_to _ _ _ f_d V HNV.out).mono ?_
       rintro e w6 ⟨rfl, kk⟩
       replace r_t2 := zrb r_t2 kk
       replace f_b0 := zfb f_b0 kk
       replace f_d := zfb f_d kk
       have Bw8 := zbt HGS Bw7 kk
       clear Bw7 kk)
    | (have hgo := Bw8; clear hgo
       refine wpList_store_as rfl 56 (.tmp 2) (.tmp 25) rfl 4 (ewF V) arrS r_t2 rfl rfl (by omega) (fun _ _ => rfl) (fun i hi => putN_whole hi) ?_
       intro w7 q gk
       replace r_t2 := q
       have Bw9 := zbg HGS Bw8 gk l_t2
       replace f_b0 := gb_bs f_b0 gk a_b0_t2
       clear f_d
       clear Bw8 gk q))
  exact ret_cell_as _ rfl arrS r_t2 rfl (by omega) (fun _ _ => rfl) rfl ⟨rfl, Bw9⟩
end Go.Proofs.Ytonhpmaiagbheaa

/- Signatures in numbers. -/
namespace Go.Proofs.Ytonhpmaiagbheaa
open Go.RowKit Go.Deep
set_option linter.unusedSimpArgs false
set_option linter.unusedVariables false

theorem sum512_length (l : List UInt8) : (k512.sum l).length = 64 := out_length k512 _ 8 rfl 8
/-- What a signature is made of. -/
def edA (seed : List UInt8) : Nat := numL (litB (clampN ((k512.sum seed).take 32)) 32) 64 % ordL
def edPub (seed : List UInt8) : List UInt8 := litB (encA (pmul dP bT (edA seed))) 32
def edR (seed text : List UInt8) : Nat := numL (k512.sum [(k512.sum seed).drop 32, text].flatten) 64 % ordL
def edRR (seed text : List UInt8) : List UInt8 := litB (encA (pmul dP bT (edR seed text))) 32
def edK (rr pub text : List UInt8) : Nat := numL (k512.sum [rr, pub, text].flatten) 64 % ordL
def edS (seed text : List UInt8) : Nat := (edR seed text + edK (edRR seed text) (edPub seed) text * edA seed % ordL) % ordL
def edSig (seed text : List UInt8) : List UInt8 := [edRR seed text, litB (edS seed text) 32].flatten
theorem edA_lt (s : List UInt8) : edA s < ordL := Nat.mod_lt _ ordL_pos
theorem edR_lt (s t : List UInt8) : edR s t < ordL := Nat.mod_lt _ ordL_pos
theorem edK_lt (r p t : List UInt8) : edK r p t < ordL := Nat.mod_lt _ ordL_pos
theorem edS_lt (s t : List UInt8) : edS s t < ordL := Nat.mod_lt _ ordL_pos
theorem edPub_length (s : List UInt8) : (edPub s).length = 32 := litB_length _ _
theorem edRR_length (s t : List UInt8) : (edRR s t).length = 32 := litB_length _ _
theorem edSig_eq (s t : List UInt8) : edSig s t = edRR s t ++ litB (edS s t) 32 := by
  unfold edSig
  simp only [List.flatten_cons, List.flatten_nil, List.append_nil]
theorem edSig_length (s t : List UInt8) : (edSig s t).length = 64 := by
  rw [edSig_eq, List.length_append, edRR_length, litB_length]
/-- What Verify compares: S times the base, R and k times the public point. -/
def edSame (pub sig text : List UInt8) : Bool := pSame (pmul dP bT ((strictSN (sig.drop 32)).getD 0)) (padd dP (dT (sig.take 32)) (pmul dP (dT pub) (edK (sig.take 32) pub text)))
def edVer (pub sig text : List UInt8) : Int :=
  if decE pub = 12 then 12 else if pSmall (dT pub) = true then 12 else if sig.length ≠ 64 then 3 else if decE (sig.take 32) = 12 then 3 else if (strictSN (sig.drop 32)).isSome = false then 3 else if edSame pub sig text = true then 0 else 3
end Go.Proofs.Ytonhpmaiagbheaa

/- What the laws of chapter 8 share: is, awake. -/
namespace Go.Proofs.Ytonhpmaiagbheaa
open Go.RowKit Go.Deep
set_option linter.unusedSimpArgs false
set_option linter.unusedVariables false

end Go.Proofs.Ytonhpmaiagbheaa

/- The points of small order, the base's order: what PointOrder needs. -/
namespace Go.Proofs.Ytonhpmaiagbheaa
open Go.RowKit Go.Deep
set_option linter.unusedSimpArgs false
set_option linter.unusedVariables false

def ptH : Nat × Nat := (0, p25 - 1)
theorem ptH_on : onE ptH := by
  refine ⟨p25_pos, by decide +kernel, ?_⟩
  unfold EC Z cE
  exact Int.dvd_of_emod_eq_zero (by decide +kernel)
theorem ptH_two : addE ptH ptH = ptO := twice_zero ptH_on (by
  unfold Z
  exact Int.dvd_of_emod_eq_zero (by decide +kernel))
theorem mulE_two {P : Nat × Nat} (hP : onE P) : mulE 2 P = addE P P := by rw [show 2 = 1 + 1 from rfl, mulE_add hP, mulE_one hP]
theorem ptH_2 : mulE 2 ptH = ptO := by rw [mulE_two ptH_on, ptH_two]
theorem ptH_8 : mulE 8 ptH = ptO := by rw [show 8 = 2 * 4 from rfl, mulE_mul ptH_on, ptH_2, mulE_zero]
theorem order_eight {A : Nat} (hA : A < ordL) : mulE 8 (mulE A ptB) = ptO ↔ A = 0 := by
  constructor
  · intro h
    rw [← mulE_mul ptB_on] at h
    rcases prime_L.dvd_mul (ord_dvd h) with k | k
    · exact Nat.eq_zero_of_dvd_of_lt k hA
    · exact absurd k ord_odd
  · rintro rfl
    exact mulE_zero 8
def fillL (k : Nat) : List UInt8 := List.replicate k 255 ++ List.replicate (32 - k) 0
theorem fillL_len (k : Nat) (h : k ≤ 32) : (fillL k).length = 32 := by
  unfold fillL
  rw [List.length_append, List.length_replicate, List.length_replicate]
  omega
theorem fillL_sets : ∀ k : Fin 32, (fillL k.val).set k.val (UInt8.ofNat 255) = fillL (k.val + 1) := by decide +kernel
theorem fillL_set (k : Nat) (h : k < 32) : (fillL k).set k (UInt8.ofNat 255) = fillL (k + 1) := fillL_sets ⟨k, h⟩
theorem fill_end : ((fillL 32).set 0 (UInt8.ofNat 236)).set 31 (UInt8.ofNat 127) = litB (p25 - 1) 32 := by decide +kernel
theorem ptH_enc : encN ptH = p25 - 1 := by decide +kernel
end Go.Proofs.Ytonhpmaiagbheaa

/- Signatures: the program's points and the document's stand for the same. -/
namespace Go.Proofs.Ytonhpmaiagbheaa
open Go.RowKit Go.Deep
set_option linter.unusedSimpArgs false
set_option linter.unusedVariables false

theorem enc_q {K : Nat} (h : K < ordL) : encQ (qMul bT K) = encA (pmul dP bT K) := by
  rw [(RQ.base.mul h).enc, (RT.base.mul (Nat.lt_trans h ordL_256)).enc]
theorem edPub_q (s : List UInt8) : litB (encQ (qMul bT (edA s))) 32 = edPub s := by
  unfold edPub
  rw [enc_q (edA_lt s)]
theorem edRR_q (s t : List UInt8) : litB (encQ (qMul bT (edR s t))) 32 = edRR s t := by
  unfold edRR
  rw [enc_q (edR_lt s t)]
theorem small_q (l : List UInt8) : qSmall (eT l) = pSmall (dT l) := by rw [(RQ.dec l).small, (RT.dec l).small]
theorem strictN_lt (l : List UInt8) : (strictSN l).getD 0 < ordL := by
  unfold strictSN
  by_cases h : l.length = 32 ∧ numL l 32 < ordL
  · rw [if_pos h, Option.getD_some]
    exact h.2
  · rw [if_neg h, Option.getD_none]
    exact ordL_pos
/-- The two sides that Verify compares. -/
theorem edSame_eq (pub sig text : List UInt8) : edSame pub sig text = decide (mulE ((strictSN (sig.drop 32)).getD 0) ptB = addE (decP (sig.take 32)) (mulE (edK (sig.take 32) pub text) (decP pub))) := by
  unfold edSame
  exact (RT.base.mul (Nat.lt_trans (strictN_lt _) ordL_256)).same ((RT.dec _).add ((RT.dec pub).mul (Nat.lt_trans (edK_lt _ _ _) ordL_256)))
theorem same_q (pub sig text : List UInt8) : qSame (qMul bT ((strictSN (sig.drop 32)).getD 0)) (qAdd (eT (sig.take 32)) (qMul (eT pub) (edK (sig.take 32) pub text))) = edSame pub sig text := by
  rw [edSame_eq]
  exact (RQ.base.mul (strictN_lt _)).same ((RQ.dec _).add ((RQ.dec pub).mul (edK_lt _ _ _)))
end Go.Proofs.Ytonhpmaiagbheaa

/- The program's signer. -/
namespace Go.Proofs.Ytonhpmaiagbheaa
open Go.RowKit Go.Deep
set_option linter.unusedSimpArgs false
set_option linter.unusedVariables false

/-- The cells of a signer. -/
def sgF (A : Nat) (p q : Value) : Nat → Value := fun i => if i < 4 then ewF A i else if i = 4 then p else q
theorem sg_s (A : Nat) (p q : Value) (i : Nat) (h : i < 4) : sgF A p q (0 + i) = ewF A i := by
  unfold sgF
  rw [Nat.zero_add, if_pos h]
theorem builtSg0 (A : Nat) (a1 a2 : Option Addr) (n1 c1 n2 c2 : Nat) : Try.prog.built 67 [(0, .agg (arrOf 4 (ewF A))), (1, .slice a1 n1 c1), (2, .slice a2 n2 c2)] = some (arrOf 6 (sgF A (.slice a1 n1 c1) (.slice a2 n2 c2))) := by kernel_rfl
theorem builtSg (A : Nat) {w : World} {p q : Value} {l m : List UInt8} (h : Bs w p l) (k : Bs w q m) : Try.prog.built 67 [(0, .agg (arrOf 4 (ewF A))), (1, p), (2, q)] = some (arrOf 6 (sgF A p q)) := by
  obtain ⟨a1, c1, rfl, _⟩ := h
  obtain ⟨a2, c2, rfl, _⟩ := k
  exact builtSg0 A a1 a2 _ c1 _ c2
/-- A signer of the seed s lies at v. -/
def SgAt (w : World) (v : Value) (s : List UInt8) : Prop :=
  ∃ (b : Nat) (p : Value) (ad : Addr) (cap : Nat), v = .pointer (some ⟨b, 0, none⟩) ∧ w.rowIs b 67 6 (sgF (edA s) p (.slice (some ad) 32 cap)) ∧ Bs w p ((k512.sum s).drop 32) ∧ Bs w (.slice (some ad) 32 cap) (edPub s)
theorem SgAt.belowJ {w w' : World} {v : Value} {s : List UInt8} (h : SgAt w v s) (hb : Below w.heap.size w w') : SgAt w' v s := by
  obtain ⟨b, p, ad, cap, h1, h2, h3, h4⟩ := h
  exact ⟨b, p, ad, cap, h1, zrb h2 hb, h3.below hb (Nat.le_refl _), h4.below hb (Nat.le_refl _)⟩
theorem SgAt.drew {w : World} {v : Value} {s : List UInt8} (h : SgAt w v s) : SgAt w.drew v s := h
theorem SgAt.of {w : World} {b : Nat} {p q : Value} {s : List UInt8} {A : Nat} (hA : A = edA s) (h : w.rowIs b 67 6 (sgF A p q)) (hp : Bs w p ((k512.sum s).drop 32)) (hq : Bs w q (edPub s)) : SgAt w (.pointer (some ⟨b, 0, none⟩)) s := by
  rw [hA] at h
  have hq' := hq
  obtain ⟨a, cap, rfl, h1, h2, h3, h4⟩ := hq'
  rw [edPub_length] at h1 h hq
  cases a with
  | none => exact absurd h1 (by rw [h3 rfl]; decide)
  | some ad => exact ⟨b, p, ad, cap, rfl, h, hp, hq⟩
theorem sum512_one (v : Value) (l : List UInt8) (w : World) (hv : Bss w v [l]) (hlen : l.length < 2 ^ 59) : Calls Try.prog 31 #[v] w fun e w' => ∃ v', e = .returned v' ∧ Bs w' v' (k512.sum l) ∧ Below w.heap.size w w' := by
  have g := sum512_any v [l] w hv (by rw [List.flatten_singleton]; exact hlen)
  rwa [List.flatten_singleton] at g
theorem cat_one (v : Value) (l : List UInt8) (w : World) (hv : Bss w v [l]) (hlen : l.length ≤ 2147483647) : Calls Try.prog 33 #[v] w fun e w' => ∃ v', e = .returned v' ∧ Owns w' w.heap.size v' l ∧ Below w.heap.size w w' := by
  have g := cat_any v [l] w hv (by rw [List.flatten_singleton]; exact hlen)
  rwa [List.flatten_singleton] at g
theorem wpList_load_atg {P : Program} {ops : Array Oper} {rest : List Oper} {o : Oper} {a : Act} {w : World} {Q : Exit → Act → World → Prop} (hw : Region.wanted o (yielded ops a.tmps) = true) (ty : TypeId) (x : Operand) (ho : o.op = .load ty x) {b m i : Nat} {t : TypeId} {f : Nat → Value} (v : Value) (hr : w.rowIs b t m f) (hx : a.eval x = .pointer (some ⟨b, i, none⟩)) (hi : i < m) (hv : f i = v)
    (hu : (P.underlying ty).map (fun d => match d with | .struct _ | .array _ _ => true | _ => false) = some false) (h : wpList P ops Q rest (a.put o.dst v) w) : wpList P ops Q (o :: rest) a w := by
  have hc := hr.cell hi
  rw [hv] at hc
  exact wpList_value_given hw v (by rw [exec_mkOp, ho]; exact exec_load_cell a.eval ty x o.type hx hu hc) h
theorem stp_box_row {P : Program} {ops : Array Oper} {Q : Exit → Act → World → Prop} {i : Nat} {r : Stp} {a : Act} {w : World} {o : Oper} (d : Nat) (ty : TypeId) (x : Operand) (t : TypeId) (k : Nat) (f : Nat → Value) (ho : ops[i]? = some o) (hd : o.dst = some d) (hop : o.op = .box ty x) (ht : o.type = t)
    (hw : Region.wanted o (yielded ops a.tmps) = true) (hx : a.eval x = .agg (arrOf k f)) (h : ∀ b w', w.heap.size ≤ b → w'.rowIs b ty k f → Below w.heap.size w w' → LinT P ops Q r (a.put (some d) (.pointer (some ⟨b, 0, none⟩))) w') :
    wpOp P ops Q i (fun a' w' => Below w.heap.size w w' ∧ LinT P ops Q r a' w') a w := by
  have hb : Below w.heap.size w (w.alloc (.cells (arrOf k f) ty)) := (Below.refl _ _).alloc (Nat.le_refl _) _
  have hr : (execOp a.eval (mkOp (.box ty x) t)).run P w = .ok (.value (.pointer (some ⟨w.heap.size, 0, none⟩))) (w.alloc (.cells (arrOf k f) ty)) := by
    unfold execOp mkOp
    simp [hx, Instr.box, newVar, newRow, newObj, Value.cells, Result.andThen]
    rfl
  exact stp_made d _ t _ _ ho hd hop ht hw hr hb (h _ _ (Nat.le_refl _) (rowIs_arr _ _ _ _) hb)
set_option maxHeartbeats 4000000 in
set_option maxRecDepth 10000 in
theorem newSigner_no (v0 : Value) (l0 : List UInt8) (w : World) (h0 : Bs w v0 l0) (hl : ¬ l0.length = 32) : Calls Try.prog 16 #[v0] w fun e w' => e = .returned (.tuple #[.pointer none, .int .i64 1]) ∧ Below w.heap.size w w' := by
  obtain ⟨ad0, n0, c0, rfl, e0, y0, z0, hB0⟩ := h0.shape
  have q0 : ¬ (n0 : Int) = 32 := by omega
  clear h0 hB0
  have Bw0 := Below.refl w.heap.size w
  have HGS : Hid (∀ wq : World, Below w.heap.size w wq → w.heap.size ≤ wq.heap.size) := Lib.hid fun wq h => h.size
  go_enter Try.func16, Try.ntmps16
  go_wp2
  go_ret2
  exact ⟨rfl, Bw0⟩
set_option maxHeartbeats 4000000 in
set_option maxRecDepth 10000 in
theorem newSigner_yes (v0 : Value) (l0 : List UInt8) (w : World) (h0 : Bs w v0 l0) (hl : l0.length = 32) : Calls Try.prog 16 #[v0] w fun e w' => ∃ v, e = .returned (.tuple #[v, .int .i64 0]) ∧ SgAt w' v l0 ∧ Below w.heap.size w w' := by
  have HL := Lib.hid hl
  have h0' := h0
  obtain ⟨gb, off, c0, rfl, y0, z0, hgb, hcells⟩ := h0'.open_n hl (by decide)
  have f_b0 := h0
  obtain ⟨A, hA⟩ := nat_var (edA l0)
  have HNA : Hid (numL (litB (clampN ((k512.sum (l0)).take 32)) 32) 64 % ordL = A) := Lib.hid hA.symm
  have HA : Hid (A < ordL) := Lib.hid (by rw [hA]; exact edA_lt _)
  have HEA := Lib.hid hA
  have HM := Lib.hid fun w => qTMul_any bT A w LtT.base
  obtain ⟨pA, hpA⟩ : ∃ p, p = qMul bT A := ⟨_, rfl⟩
  have HPA : Hid (LtT pA) := Lib.hid (by rw [hpA]; exact LtT.oft _ _ _)
  have HE := Lib.hid fun w => qTEncode_any pA w HPA.out
  have heq : litB (encQ pA) 32 = edPub l0 := by rw [hpA, hA]; exact edPub_q l0
  rw [← hpA] at HM
  rw [heq] at HE
  have HCUT : Hid (32 ≤ (k512.sum (l0)).length) := Lib.hid (by rw [sum512_length]; decide)
  have HTL : Hid (((k512.sum (l0)).take 32).length = 32) := Lib.hid (by rw [List.length_take, sum512_length]; rfl)
  have HDL : Hid (((k512.sum (l0)).drop 32).length = 32) := Lib.hid (by rw [List.length_drop, sum512_length])
  clear h0 hl hA hpA heq hcells hgb
  have Bw0 := Below.refl w.heap.size w
  have HGS : Hid (∀ wq : World, Below w.heap.size w wq → w.heap.size ≤ wq.heap.size) := Lib.hid fun wq h => h.size
  have HF_b0 := Lib.hid f_b0
  go_enter Try.func16, Try.ntmps16
  go_wp2_with (first
    | (have hgo := Bw0; clear hgo
       refine wpList_rows1 rfl (.tmp 9) rfl f_b0 rfl ?_
       intro v_r10 w7 F_r10 kk
       replace f_b0 := zfb f_b0 kk
       have Bw1 := zbt HGS Bw0 kk
       clear Bw0 kk)
    | (have hgo := Bw1; clear hgo
       go_at_call 31
       refine (sum512_one _ (l0) _ F_r10 (by rw [HL.out]; decide)).mono ?_
       rintro e w8 ⟨v_s11, rfl, f_s11, kk⟩
       replace f_b0 := zfb f_b0 kk
       have Bw2 := zbt HGS Bw1 kk
       clear Bw1 kk)
    | (have hgo := Bw2; clear hgo
       obtain ⟨v_s13, f_s13, hr13⟩ := takeB f_s11 32 (HCUT.out)
       refine wpList_value rfl _ (by rw [exec_mkOp]; exact hr13 _ _ _ _ _ rfl rfl) ?_
       clear hr13
       have Bw3 := Bw2
       clear Bw2)
    | (have hgo := Bw3; clear hgo
       go_at_call 32
       refine (clamped_to _ _ A _ f_s13 HTL.out HNA.out).mono ?_
       rintro e w12 ⟨rfl, kk⟩
       replace f_b0 := zfb f_b0 kk
       replace f_s11 := zfb f_s11 kk
       replace f_s13 := zfb f_s13 kk
       have Bw4 := zbt HGS Bw3 kk
       clear Bw3 kk)
    | (have hgo := Bw4; clear hgo
       refine wpList_alloc_row rfl 56 rfl 4 (u64f fun _ => 0) zeroS ?_
       intro b_t5 w13 lk r_t5 kk
       have l_t5 := zrl HGS Bw4 lk
       have a_b0_t5 := Bs.away f_b0 lk
       have a_s11_t5 := Bs.away f_s11 lk
       have a_s13_t5 := Bs.away f_s13 lk
       replace f_b0 := zfb f_b0 kk
       replace f_s11 := zfb f_s11 kk
       replace f_s13 := zfb f_s13 kk
       have Bw5 := zbt HGS Bw4 kk
       clear Bw4 kk lk)
    | (have hgo := Bw5; clear hgo
       refine wpList_store_as rfl 56 (.tmp 5) (.tmp 14) rfl 4 (ewF A) arrS r_t5 rfl rfl (by omega) (fun _ _ => rfl) (fun i hi => putN_whole hi) ?_
       intro w14 q gk
       replace r_t5 := q
       have Bw6 := zbg HGS Bw5 gk l_t5
       replace f_b0 := gb_bs f_b0 gk a_b0_t5
       replace f_s11 := gb_bs f_s11 gk a_s11_t5
       replace f_s13 := gb_bs f_s13 gk a_s13_t5
       clear Bw5 gk q))
  clear f_b0 f_s13
  go_wp2
  have Bw7 := Bw6.drew
  replace r_t5 := World.rowIs.drew r_t5
  replace f_s11 := Bs.drew f_s11
  clear Bw6
  refine wp_region_lint (.rd 0 (.rd 1 (.rd 2 (.rd 6 (.wr 3 (.wr 4 (.wr 5 (.wr 7 (.wr 8 (.rd 9 (.wr 10 (.rd 11 (.rd 12 .done))))))))))))) (by kernel_rfl) (by kernel_rfl) (by decide) (by kernel_rfl) (fun d _ _ _ _ h => by cases d <;> exact h) ?_
  refine lint_pure 15 (Op.load 56 (Operand.tmp 5)) 56 (.agg (arrOf 4 (ewF A))) rfl rfl rfl rfl rfl (fun w0 hb0 => by exact exec_load_as _ _ _ _ (ewF A) rfl arrS (World.rowIs.of_block r_t5 (hb0.block _ (World.rowIs.lt r_t5))) (by omega) (fun i hi => by rw [Nat.zero_add])) ?_
  simp only [Act.put, zA, zB, zC]
  refine lint_pure 16 (Op.move (Operand.tmp 4)) 22 (v_s11) rfl rfl rfl rfl rfl (fun w0 hb0 => by unfold mkOp; go_simp; all_goals (with_reducible rfl)) ?_
  simp only [Act.put, zA, zB, zC]
  obtain ⟨v_s17, f_s17, hr17⟩ := dropB f_s11 32 (HCUT.out)
  refine lint_pure 17 (Op.slice 22 (Operand.tmp 16) (some (Operand.const (Value.int IntKind.i64 32))) none none) 22 v_s17 rfl rfl rfl rfl rfl (fun w0 hb0 => by exact hr17 _ _ _ _ w0 rfl rfl) ?_
  clear hr17
  simp only [Act.put, zA, zB, zC]
  refine lint_pure 21 (Op.load 56 (Operand.tmp 5)) 56 (.agg (arrOf 4 (ewF A))) rfl rfl rfl rfl rfl (fun w0 hb0 => by exact exec_load_as _ _ _ _ (ewF A) rfl arrS (World.rowIs.of_block r_t5 (hb0.block _ (World.rowIs.lt r_t5))) (by omega) (fun i hi => by rw [Nat.zero_add])) ?_
  simp only [Act.put, zA, zB, zC]
  refine stp_rows1 18 (.tmp 17) 23 rfl rfl rfl rfl rfl f_s17 rfl ?_
  intro w15 v_r18 F_r18 kk
  replace r_t5 := zrb r_t5 kk
  replace f_s11 := zfb f_s11 kk
  replace f_s17 := zfb f_s17 kk
  have Bw8 := zbt HGS Bw7 kk
  clear Bw7 kk
  simp only [Act.put, zA, zB, zC]
  refine stp_fn 19 33 #[Operand.tmp 18] #[23] _ (cat_one _ ((k512.sum (l0)).drop 32) _ F_r18 (by rw [HDL.out]; decide)) rfl rfl rfl rfl Try.func33 (by kernel_rfl) (by kernel_rfl) (by go_simp) ?_
  rintro e w16 ⟨v_s19, rfl, o_s19, kk⟩
  refine ⟨_, rfl, kk, ?_⟩
  replace r_t5 := zrb r_t5 kk
  replace f_s11 := zfb f_s11 kk
  replace f_s17 := zfb f_s17 kk
  have Bw9 := zbt HGS Bw8 kk
  clear Bw8 kk
  have f_s19 := o_s19.bs
  clear o_s19
  simp only [Act.put, zA, zB, zC]
  refine stp_fn 20 25 #[] #[] _ (qTBase_any _) rfl rfl rfl rfl Try.func25 (by kernel_rfl) (by kernel_rfl) (by go_simp) ?_
  rintro e w17 ⟨rfl, kk⟩
  refine ⟨_, rfl, kk, ?_⟩
  replace r_t5 := zrb r_t5 kk
  replace f_s11 := zfb f_s11 kk
  replace f_s17 := zfb f_s17 kk
  replace f_s19 := zfb f_s19 kk
  have Bw10 := zbt HGS Bw9 kk
  clear Bw9 kk
  simp only [Act.put, zA, zB, zC]
  refine stp_fn 22 26 #[Operand.tmp 20, Operand.tmp 21] #[52, 56] _ (HM.out _) rfl rfl rfl rfl Try.func26 (by kernel_rfl) (by kernel_rfl) (by go_simp) ?_
  rintro e w18 ⟨rfl, kk⟩
  refine ⟨_, rfl, kk, ?_⟩
  replace r_t5 := zrb r_t5 kk
  replace f_s11 := zfb f_s11 kk
  replace f_s17 := zfb f_s17 kk
  replace f_s19 := zfb f_s19 kk
  have Bw11 := zbt HGS Bw10 kk
  clear Bw10 kk
  simp only [Act.put, zA, zB, zC]
  refine stp_fn 23 34 #[Operand.tmp 22] #[52] _ (HE.out _ ) rfl rfl rfl rfl Try.func34 (by kernel_rfl) (by kernel_rfl) (by go_simp) ?_
  rintro e w19 ⟨v_s23, rfl, o_s23, kk⟩
  refine ⟨_, rfl, kk, ?_⟩
  replace r_t5 := zrb r_t5 kk
  replace f_s11 := zfb f_s11 kk
  replace f_s17 := zfb f_s17 kk
  replace f_s19 := zfb f_s19 kk
  have Bw12 := zbt HGS Bw11 kk
  clear Bw11 kk
  have f_s23 := o_s23.bs
  clear o_s23
  simp only [Act.put, zA, zB, zC]
  refine lint_pure 24 (Op.build 67 #[(0, Operand.tmp 15), (1, Operand.tmp 19), (2, Operand.tmp 23)]) 67 (.agg (arrOf 6 (sgF A v_s19 v_s23))) rfl rfl rfl rfl rfl (fun w0 hb0 => by refine exec_build_as _ _ _ ?_; simp only [List.map_toArray, List.map_cons, List.map_nil]; exact builtSg A f_s19 f_s23) ?_
  simp only [Act.put, zA, zB, zC]
  refine stp_box_row 25 67 (.tmp 24) 39 6 (sgF A v_s19 v_s23) rfl rfl rfl rfl rfl rfl ?_
  intro b_t25 w20 lk r_t25 kk
  have n_t5_t25 := zrn r_t5 lk
  have l_t25 := zrl HGS Bw12 lk
  have a_s11_t25 := Bs.away f_s11 lk
  have a_s17_t25 := Bs.away f_s17 lk
  have a_s19_t25 := Bs.away f_s19 lk
  have a_s23_t25 := Bs.away f_s23 lk
  replace r_t5 := zrb r_t5 kk
  replace f_s11 := zfb f_s11 kk
  replace f_s17 := zfb f_s17 kk
  replace f_s19 := zfb f_s19 kk
  replace f_s23 := zfb f_s23 kk
  have Bw13 := zbt HGS Bw12 kk
  clear Bw12 kk lk
  simp only [Act.put, zA, zB, zC]
  refine lint_pure 2 (Op.assign (Operand.tmp 25)) 39 (.pointer (some ⟨b_t25, 0, none⟩)) rfl rfl rfl rfl rfl (fun w0 hb0 => by unfold mkOp; go_simp; all_goals (with_reducible rfl)) ?_
  simp only [Act.put, zA, zB, zC]
  refine lint_pure 3 (Op.assign (Operand.const (Value.int IntKind.i64 0))) 26 ((.int .i64 0)) rfl rfl rfl rfl rfl (fun w0 hb0 => by unfold mkOp; go_simp; all_goals (with_reducible rfl)) ?_
  simp only [Act.put, zA, zB, zC]
  refine lint_end ?_
  go_wp2
  go_ret2
  exact ⟨_, rfl, SgAt.of HEA.out r_t25 f_s19 f_s23, Bw13⟩
set_option maxHeartbeats 4000000 in
set_option maxRecDepth 10000 in
theorem sgPublic_any (v0 : Value) (s0 : List UInt8) (w : World) (hs : SgAt w v0 s0) : Calls Try.prog 18 #[v0] w fun e w' => (∃ v', e = .returned v' ∧ Owns w' w.heap.size v' (edPub s0) ∧ Below w.heap.size w w') := by
  obtain ⟨b_sg, v_p, ad, cap, rfl, r_sg, f_p, f_q⟩ := hs
  have hlq := edPub_length s0
  obtain ⟨A, hA⟩ := nat_var (edA s0)
  have HA : Hid (A < ordL) := Lib.hid (by rw [hA]; exact edA_lt _)
  rw [← hA] at r_sg
  have HEA := Lib.hid hA
  clear hA
  have HLP := Lib.hid hlq
  clear hlq
  have Bw0 := Below.refl w.heap.size w
  have HGS : Hid (∀ wq : World, Below w.heap.size w wq → w.heap.size ≤ wq.heap.size) := Lib.hid fun wq h => h.size
  go_enter Try.func18, Try.ntmps18
  go_wp2_with (first
    | (have hgo := Bw0; clear hgo
       refine wpList_load_at rfl 22 (.tmp 7) rfl (.slice (some ad) 32 cap) (i := 5) r_sg rfl (by omega) rfl (by kernel_rfl) ?_
       have Bw1 := Bw0
       clear Bw0)
    | (have hgo := Bw1; clear hgo
       refine wpList_rows1 rfl (.tmp 8) rfl f_q rfl ?_
       intro v_r9 w8 F_r9 kk
       replace r_sg := zrb r_sg kk
       replace f_p := zfb f_p kk
       replace f_q := zfb f_q kk
       have Bw2 := zbt HGS Bw1 kk
       clear Bw1 kk)
    | (have hgo := Bw2; clear hgo
       go_at_call 33
       refine (cat_one _ (edPub s0) _ F_r9 (by rw [HLP.out]; decide)).mono ?_
       rintro e w9 ⟨v_s10, rfl, o_s10, kk⟩
       replace o_s10 := Owns.lower o_s10 (HGS.out _ Bw2)
       replace r_sg := zrb r_sg kk
       replace f_p := zfb f_p kk
       replace f_q := zfb f_q kk
       have Bw3 := zbt HGS Bw2 kk
       clear Bw2 kk
       have f_s10 := o_s10.bs))
  go_ret
  exact ⟨_, rfl, o_s10, Bw3⟩
set_option maxHeartbeats 4000000 in
set_option maxRecDepth 10000 in
theorem sgSign_nil (v1 : Value) (w : World) : Calls Try.prog 17 #[.pointer none, v1] w fun e w' => e = .returned (.slice none 0 0) ∧ Below w.heap.size w w' := by
  have Bw0 := Below.refl w.heap.size w
  have HGS : Hid (∀ wq : World, Below w.heap.size w wq → w.heap.size ≤ wq.heap.size) := Lib.hid fun wq h => h.size
  go_enter Try.func17, Try.ntmps17
  go_wp2
  go_ret
  exact ⟨rfl, Bw0⟩
set_option maxHeartbeats 4000000 in
set_option maxRecDepth 10000 in
theorem sgSign_any (v0 v1 : Value) (s0 : List UInt8) (L0 : List (List UInt8)) (w : World) (hs : SgAt w v0 s0) (h1 : Bss w v1 L0) (hn : 2 + L0.length ≤ 2147483647) (hl : L0.flatten.length < 2 ^ 29) : Calls Try.prog 17 #[v0, v1] w fun e w' => (∃ v', e = .returned v' ∧ Owns w' w.heap.size v' (edSig s0 L0.flatten) ∧ Below w.heap.size w w') := by
  obtain ⟨b_sg, v_p, ad, cap, rfl, r_sg, f_p, f_q⟩ := hs
  have hlq := edPub_length s0
  obtain ⟨A, hA⟩ := nat_var (edA s0)
  have HA : Hid (A < ordL) := Lib.hid (by rw [hA]; exact edA_lt _)
  rw [← hA] at r_sg
  have HEA := Lib.hid hA
  clear hA
  obtain ⟨t0, ht⟩ : ∃ t, t = L0.flatten := ⟨_, rfl⟩
  have HLS := Lib.hid h1
  have HN0 := Lib.hid hn
  have HLT : Hid (t0.length < 2 ^ 29) := Lib.hid (by rw [ht]; exact hl)
  obtain ⟨R, hR⟩ := nat_var (edR s0 t0)
  have HR : Hid (R < ordL) := Lib.hid (by rw [hR]; exact edR_lt _ _)
  have HD : Hid (((k512.sum s0).drop 32).length = 32) := Lib.hid (by rw [List.length_drop, sum512_length])
  have HF1 : Hid (([(k512.sum s0).drop 32] ++ L0).flatten = (k512.sum s0).drop 32 ++ t0) := Lib.hid (by rw [ht, List.flatten_append, List.flatten_singleton])
  have HNR : Hid (numL (k512.sum ([(k512.sum s0).drop 32] ++ L0).flatten) 64 % ordL = R) := Lib.hid (by rw [HF1.out, hR]; unfold edR; simp only [List.flatten_cons, List.flatten_nil, List.append_nil])
  obtain ⟨pR, hpR⟩ : ∃ p, p = qMul bT R := ⟨_, rfl⟩
  have HPR : Hid (LtT pR) := Lib.hid (by rw [hpR]; exact LtT.oft _ _ _)
  have hnil : ∀ W, (binOp .eql 22 (.slice (some ad) 32 cap) (.slice none 0 0)).run Try.prog W = .ok (.bool false) W := fun W => Lib.run_eql_slice_some_nil W _ _ _ Try.underlying22
  have HM := Lib.hid fun w => qTMul_any bT R w LtT.base
  rw [← hpR] at HM
  have HE := Lib.hid fun w => qTEncode_any pR w HPR.out
  have heq : litB (encQ pR) 32 = edRR s0 t0 := by rw [hpR, hR]; exact edRR_q s0 t0
  rw [heq] at HE
  obtain ⟨rr, hrr⟩ : ∃ l, l = edRR s0 t0 := ⟨_, rfl⟩
  have HRL : Hid (rr.length = 32) := Lib.hid (by rw [hrr]; exact edRR_length _ _)
  rw [← hrr] at HE
  obtain ⟨pb, hpb⟩ : ∃ l, l = edPub s0 := ⟨_, rfl⟩
  have HPL : Hid (pb.length = 32) := Lib.hid (by rw [hpb]; exact edPub_length _)
  rw [← hpb] at f_q
  obtain ⟨K, hK⟩ := nat_var (edK rr pb t0)
  have HK : Hid (K < ordL) := Lib.hid (by rw [hK]; exact edK_lt _ _ _)
  have HF2 : Hid (([rr, pb] ++ L0).flatten = rr ++ (pb ++ t0)) := Lib.hid (by rw [ht, List.flatten_append]; simp only [List.flatten_cons, List.flatten_nil, List.append_nil, List.append_assoc])
  have HNK : Hid (numL (k512.sum ([rr, pb] ++ L0).flatten) 64 % ordL = K) := Lib.hid (by rw [HF2.out, hK]; unfold edK; simp only [List.flatten_cons, List.flatten_nil, List.append_nil])
  have HSIG : Hid ([rr, litB ((R + (K * A % ordL)) % ordL) 32].flatten = edSig s0 t0) := Lib.hid (by rw [hK, hR, hrr, hpb, HEA.out]; rfl)
  rw [← ht]
  clear hR hpR heq hK hrr hpb h1 hn hl hlq ht
  have Bw0 := Below.refl w.heap.size w
  have HGS : Hid (∀ wq : World, Below w.heap.size w wq → w.heap.size ≤ wq.heap.size) := Lib.hid fun wq h => h.size
  go_enter Try.func17, Try.ntmps17
  go_wp2_with (first
    | (have hgo := Bw0; clear hgo
       refine wpList_load_atg rfl 22 (.tmp 13) rfl (.slice (some ad) 32 cap) (i := 5) r_sg rfl (by omega) rfl (by kernel_rfl) ?_
       have Bw1 := Bw0
       clear Bw0)
    | (have hgo := Bw1; clear hgo
       refine wpList_load_at rfl 22 (.tmp 20) rfl (v_p) (i := 4) r_sg rfl (by omega) rfl (by kernel_rfl) ?_
       have Bw2 := Bw1
       clear Bw1)
    | (have hgo := Bw2; clear hgo
       refine wpList_rowsF1 rfl (.tmp 21) rfl f_p rfl ?_
       intro ad16 w16 F_r kk
       replace r_sg := zrb r_sg kk
       replace f_p := zfb f_p kk
       replace f_q := zfb f_q kk
       have Bw3 := zbt HGS Bw2 kk
       clear Bw2 kk)
    | (have hgo := Bw3; clear hgo
       go_at_call 24
       refine (number_to _ _ _ [(k512.sum s0).drop 32] L0 R _ (HLS.out.below Bw3 (Nat.le_refl _)) F_r (by have := HN0.out; simp; omega) (by have := HLT.out; rw [HF1.out, List.length_append, HD.out]; omega) HNR.out).mono ?_
       rintro e w17 ⟨rfl, kk⟩
       clear F_r
       replace r_sg := zrb r_sg kk
       replace f_p := zfb f_p kk
       replace f_q := zfb f_q kk
       have Bw4 := zbt HGS Bw3 kk
       clear Bw3 kk)
    | (have hgo := Bw4; clear hgo
       refine wpList_alloc_row rfl 56 rfl 4 (u64f fun _ => 0) zeroS ?_
       intro b_t5 w18 lk r_t5 kk
       have n_sg_t5 := zrn r_sg lk
       have l_t5 := zrl HGS Bw4 lk
       have a_p_t5 := Bs.away f_p lk
       have a_q_t5 := Bs.away f_q lk
       replace r_sg := zrb r_sg kk
       replace f_p := zfb f_p kk
       replace f_q := zfb f_q kk
       have Bw5 := zbt HGS Bw4 kk
       clear Bw4 kk lk)
    | (have hgo := Bw5; clear hgo
       refine wpList_store_as rfl 56 (.tmp 5) (.tmp 23) rfl 4 (ewF R) arrS r_t5 rfl rfl (by omega) (fun _ _ => rfl) (fun i hi => putN_whole hi) ?_
       intro w19 q gk
       replace r_sg := gb_rowIs r_sg gk n_sg_t5
       replace r_t5 := q
       have Bw6 := zbg HGS Bw5 gk l_t5
       replace f_p := gb_bs f_p gk a_p_t5
       replace f_q := gb_bs f_q gk a_q_t5
       clear Bw5 gk q))
  have Bw7 := Bw6.drew
  replace r_sg := World.rowIs.drew r_sg
  replace r_t5 := World.rowIs.drew r_t5
  replace f_p := Bs.drew f_p
  replace f_q := Bs.drew f_q
  clear Bw6
  refine wp_region_lint (.rd 1 (.wr 0 (.wr 2 (.wr 3 (.rd 4 .done))))) (by kernel_rfl) (by kernel_rfl) (by decide) (by kernel_rfl) (fun d _ _ _ _ h => by cases d <;> exact h) ?_
  refine lint_pure 25 (Op.load 56 (Operand.tmp 5)) 56 (.agg (arrOf 4 (ewF R))) rfl rfl rfl rfl rfl (fun w0 hb0 => by exact exec_load_as _ _ _ _ (ewF R) rfl arrS (World.rowIs.of_block r_t5 (hb0.block _ (World.rowIs.lt r_t5))) (by omega) (fun i hi => by rw [Nat.zero_add])) ?_
  simp only [Act.put, zA, zB, zC]
  refine stp_fn 24 25 #[] #[] _ (qTBase_any _) rfl rfl rfl rfl Try.func25 (by kernel_rfl) (by kernel_rfl) (by go_simp) ?_
  rintro e w20 ⟨rfl, kk⟩
  refine ⟨_, rfl, kk, ?_⟩
  replace r_sg := zrb r_sg kk
  replace r_t5 := zrb r_t5 kk
  replace f_p := zfb f_p kk
  replace f_q := zfb f_q kk
  have Bw8 := zbt HGS Bw7 kk
  clear Bw7 kk
  simp only [Act.put, zA, zB, zC]
  refine stp_fn 26 26 #[Operand.tmp 24, Operand.tmp 25] #[52, 56] _ (HM.out _) rfl rfl rfl rfl Try.func26 (by kernel_rfl) (by kernel_rfl) (by go_simp) ?_
  rintro e w21 ⟨rfl, kk⟩
  refine ⟨_, rfl, kk, ?_⟩
  replace r_sg := zrb r_sg kk
  replace r_t5 := zrb r_t5 kk
  replace f_p := zfb f_p kk
  replace f_q := zfb f_q kk
  have Bw9 := zbt HGS Bw8 kk
  clear Bw8 kk
  simp only [Act.put, zA, zB, zC]
  refine stp_fn 27 34 #[Operand.tmp 26] #[52] _ (HE.out _ ) rfl rfl rfl rfl Try.func34 (by kernel_rfl) (by kernel_rfl) (by go_simp) ?_
  rintro e w22 ⟨v_s27, rfl, o_s27, kk⟩
  refine ⟨_, rfl, kk, ?_⟩
  replace r_sg := zrb r_sg kk
  replace r_t5 := zrb r_t5 kk
  replace f_p := zfb f_p kk
  replace f_q := zfb f_q kk
  have Bw10 := zbt HGS Bw9 kk
  clear Bw9 kk
  have f_s27 := o_s27.bs
  clear o_s27
  simp only [Act.put, zA, zB, zC]
  refine lint_pure 6 (Op.assign (Operand.tmp 27)) 22 (v_s27) rfl rfl rfl rfl rfl (fun w0 hb0 => by unfold mkOp; go_simp; all_goals (with_reducible rfl)) ?_
  simp only [Act.put, zA, zB, zC]
  refine lint_end ?_
  go_wp2_with (first
    | (have hgo := Bw10; clear hgo
       refine wpList_load_at rfl 22 (.tmp 32) rfl (.slice (some ad) 32 cap) (i := 5) r_sg rfl (by omega) rfl (by kernel_rfl) ?_
       have Bw11 := Bw10
       clear Bw10)
    | (have hgo := Bw11; clear hgo
       refine wpList_rowsF2 rfl (.tmp 29) (.tmp 33) rfl f_s27 f_q rfl rfl ?_
       intro ad29 w29 F_r kk
       replace r_sg := zrb r_sg kk
       replace r_t5 := zrb r_t5 kk
       replace f_p := zfb f_p kk
       replace f_q := zfb f_q kk
       replace f_s27 := zfb f_s27 kk
       have Bw12 := zbt HGS Bw11 kk
       clear Bw11 kk)
    | (have hgo := Bw12; clear hgo
       go_at_call 24
       refine (number_to _ _ _ [rr, pb] L0 K _ (HLS.out.below Bw12 (Nat.le_refl _)) F_r (by have := HN0.out; simp; omega) (by have := HLT.out; rw [HF2.out, List.length_append, List.length_append, HRL.out, HPL.out]; omega) HNK.out).mono ?_
       rintro e w30 ⟨rfl, kk⟩
       clear F_r
       replace r_sg := zrb r_sg kk
       replace r_t5 := zrb r_t5 kk
       replace f_p := zfb f_p kk
       replace f_q := zfb f_q kk
       replace f_s27 := zfb f_s27 kk
       have Bw13 := zbt HGS Bw12 kk
       clear Bw12 kk)
    | (have hgo := Bw13; clear hgo
       refine wpList_alloc_row rfl 56 rfl 4 (u64f fun _ => 0) zeroS ?_
       intro b_t7 w31 lk r_t7 kk
       have n_sg_t7 := zrn r_sg lk
       have n_t5_t7 := zrn r_t5 lk
       have l_t7 := zrl HGS Bw13 lk
       have a_p_t7 := Bs.away f_p lk
       have a_q_t7 := Bs.away f_q lk
       have a_s27_t7 := Bs.away f_s27 lk
       replace r_sg := zrb r_sg kk
       replace r_t5 := zrb r_t5 kk
       replace f_p := zfb f_p kk
       replace f_q := zfb f_q kk
       replace f_s27 := zfb f_s27 kk
       have Bw14 := zbt HGS Bw13 kk
       clear Bw13 kk lk)
    | (have hgo := Bw14; clear hgo
       refine wpList_store_as rfl 56 (.tmp 7) (.tmp 35) rfl 4 (ewF K) arrS r_t7 rfl rfl (by omega) (fun _ _ => rfl) (fun i hi => putN_whole hi) ?_
       intro w32 q gk
       replace r_sg := gb_rowIs r_sg gk n_sg_t7
       replace r_t5 := gb_rowIs r_t5 gk n_t5_t7
       replace r_t7 := q
       have Bw15 := zbg HGS Bw14 gk l_t7
       replace f_p := gb_bs f_p gk a_p_t7
       replace f_q := gb_bs f_q gk a_q_t7
       replace f_s27 := gb_bs f_s27 gk a_s27_t7
       clear Bw14 gk q))
  have Bw16 := Bw15.drew
  replace r_sg := World.rowIs.drew r_sg
  replace r_t5 := World.rowIs.drew r_t5
  replace r_t7 := World.rowIs.drew r_t7
  replace f_p := Bs.drew f_p
  replace f_q := Bs.drew f_q
  replace f_s27 := Bs.drew f_s27
  clear Bw15
  refine wp_region_lint (.rd 0 (.rd 1 (.rd 2 (.rd 3 (.rd 4 (.rd 5 (.rd 6 (.wr 7 (.wr 8 (.wr 9 (.wr 10 (.wr 11 (.rd 12 .done))))))))))))) (by kernel_rfl) (by kernel_rfl) (by decide) (by kernel_rfl) (fun d _ _ _ _ h => by cases d <;> exact h) ?_
  refine lint_pure 36 (Op.move (Operand.tmp 6)) 22 (v_s27) rfl rfl rfl rfl rfl (fun w0 hb0 => by unfold mkOp; go_simp; all_goals (with_reducible rfl)) ?_
  simp only [Act.put, zA, zB, zC]
  refine lint_pure 37 (Op.load 56 (Operand.tmp 5)) 56 (.agg (arrOf 4 (ewF R))) rfl rfl rfl rfl rfl (fun w0 hb0 => by exact exec_load_as _ _ _ _ (ewF R) rfl arrS (World.rowIs.of_block r_t5 (hb0.block _ (World.rowIs.lt r_t5))) (by omega) (fun i hi => by rw [Nat.zero_add])) ?_
  simp only [Act.put, zA, zB, zC]
  refine lint_pure 38 (Op.load 56 (Operand.tmp 7)) 56 (.agg (arrOf 4 (ewF K))) rfl rfl rfl rfl rfl (fun w0 hb0 => by exact exec_load_as _ _ _ _ (ewF K) rfl arrS (World.rowIs.of_block r_t7 (hb0.block _ (World.rowIs.lt r_t7))) (by omega) (fun i hi => by rw [Nat.zero_add])) ?_
  simp only [Act.put, zA, zB, zC]
  refine lint_pure 39 (Op.move (Operand.tmp 0)) 39 (.pointer (some ⟨b_sg, 0, none⟩)) rfl rfl rfl rfl rfl (fun w0 hb0 => by unfold mkOp; go_simp; all_goals (with_reducible rfl)) ?_
  simp only [Act.put, zA, zB, zC]
  refine lint_pure 40 (Op.nilCheck (Operand.tmp 39)) 0 (.pointer (some ⟨b_sg, 0, none⟩)) rfl rfl rfl rfl rfl (fun w0 hb0 => by unfold mkOp; go_simp; all_goals (with_reducible rfl)) ?_
  simp only [Act.put, zA, zB, zC]
  refine lint_pure 41 (Op.fieldAddr 67 (Operand.tmp 40) 0) 0 (.pointer (some ⟨b_sg, 0, none⟩)) rfl rfl rfl rfl rfl (fun w0 hb0 => by unfold mkOp; go_simp; all_goals (with_reducible rfl)) ?_
  simp only [Act.put, zA, zB, zC]
  refine lint_pure 42 (Op.load 56 (Operand.tmp 41)) 56 (.agg (arrOf 4 (ewF A))) rfl rfl rfl rfl rfl (fun w0 hb0 => by exact exec_load_as _ _ _ _ (ewF A) rfl arrS (World.rowIs.of_block r_sg (hb0.block _ (World.rowIs.lt r_sg))) (by omega) (fun i hi => sg_s _ _ _ i hi)) ?_
  simp only [Act.put, zA, zB, zC]
  refine stp_fn 43 36 #[Operand.tmp 38, Operand.tmp 42] #[56, 56] _ (sMul_any K A _ HK.out HA.out) rfl rfl rfl rfl Try.func36 (by kernel_rfl) (by kernel_rfl) (by go_simp) ?_
  rintro e w33 ⟨rfl, kk⟩
  refine ⟨_, rfl, kk, ?_⟩
  replace r_sg := zrb r_sg kk
  replace r_t5 := zrb r_t5 kk
  replace r_t7 := zrb r_t7 kk
  replace f_p := zfb f_p kk
  replace f_q := zfb f_q kk
  replace f_s27 := zfb f_s27 kk
  have Bw17 := zbt HGS Bw16 kk
  clear Bw16 kk
  simp only [Act.put, zA, zB, zC]
  refine stp_fn 44 35 #[Operand.tmp 37, Operand.tmp 43] #[56, 56] _ (sAdd_any R (K * A % ordL) _ HR.out (Nat.mod_lt _ ordL_pos)) rfl rfl rfl rfl Try.func35 (by kernel_rfl) (by kernel_rfl) (by go_simp) ?_
  rintro e w34 ⟨rfl, kk⟩
  refine ⟨_, rfl, kk, ?_⟩
  replace r_sg := zrb r_sg kk
  replace r_t5 := zrb r_t5 kk
  replace r_t7 := zrb r_t7 kk
  replace f_p := zfb f_p kk
  replace f_q := zfb f_q kk
  replace f_s27 := zfb f_s27 kk
  have Bw18 := zbt HGS Bw17 kk
  clear Bw17 kk
  simp only [Act.put, zA, zB, zC]
  refine stp_fn 45 37 #[Operand.tmp 44] #[56] _ (sBytes_any ((R + (K * A % ordL)) % ordL) _) rfl rfl rfl rfl Try.func37 (by kernel_rfl) (by kernel_rfl) (by go_simp) ?_
  rintro e w35 ⟨v_s45, rfl, o_s45, kk⟩
  refine ⟨_, rfl, kk, ?_⟩
  replace r_sg := zrb r_sg kk
  replace r_t5 := zrb r_t5 kk
  replace r_t7 := zrb r_t7 kk
  replace f_p := zfb f_p kk
  replace f_q := zfb f_q kk
  replace f_s27 := zfb f_s27 kk
  have Bw19 := zbt HGS Bw18 kk
  clear Bw18 kk
  have f_s45 := o_s45.bs
  clear o_s45
  simp only [Act.put, zA, zB, zC]
  refine stp_rows2 46 (.tmp 36) (.tmp 45) 23 rfl rfl rfl rfl rfl f_s27 f_s45 rfl rfl ?_
  intro w36 v_r46 F_r46 kk
  replace r_sg := zrb r_sg kk
  replace r_t5 := zrb r_t5 kk
  replace r_t7 := zrb r_t7 kk
  replace f_p := zfb f_p kk
  replace f_q := zfb f_q kk
  replace f_s27 := zfb f_s27 kk
  replace f_s45 := zfb f_s45 kk
  have Bw20 := zbt HGS Bw19 kk
  clear Bw19 kk
  simp only [Act.put, zA, zB, zC]
  refine stp_fn 47 33 #[Operand.tmp 46] #[23] _ (cat_any _ [rr, litB ((R + (K * A % ordL)) % ordL) 32] _ F_r46 (by simp [litB_length, HRL.out])) rfl rfl rfl rfl Try.func33 (by kernel_rfl) (by kernel_rfl) (by go_simp) ?_
  rintro e w37 ⟨v_s47, rfl, o_s47, kk⟩
  refine ⟨_, rfl, kk, ?_⟩
  replace o_s47 := Owns.lower o_s47 (HGS.out _ Bw20)
  replace r_sg := zrb r_sg kk
  replace r_t5 := zrb r_t5 kk
  replace r_t7 := zrb r_t7 kk
  replace f_p := zfb f_p kk
  replace f_q := zfb f_q kk
  replace f_s27 := zfb f_s27 kk
  replace f_s45 := zfb f_s45 kk
  have Bw21 := zbt HGS Bw20 kk
  clear Bw20 kk
  have f_s47 := o_s47.bs
  simp only [Act.put, zA, zB, zC]
  refine lint_pure 4 (Op.assign (Operand.tmp 47)) 22 (v_s47) rfl rfl rfl rfl rfl (fun w0 hb0 => by unfold mkOp; go_simp; all_goals (with_reducible rfl)) ?_
  simp only [Act.put, zA, zB, zC]
  refine lint_end ?_
  go_wp2
  go_ret
  exact ⟨_, rfl, by rw [← HSIG.out]; exact o_s47, Bw21⟩
end Go.Proofs.Ytonhpmaiagbheaa

/- The program's Public, Sign, Verify. -/
namespace Go.Proofs.Ytonhpmaiagbheaa
open Go.RowKit Go.Deep
set_option linter.unusedSimpArgs false
set_option linter.unusedVariables false

theorem decE_twoP (l : List UInt8) : decE l = 12 ∨ decE l = 0 := by
  unfold decE
  cases decN l with
  | none => exact .inl rfl
  | some _ => exact .inr rfl
theorem qDecodeE_any (v : Value) (l : List UInt8) (p : Nat × Nat × Nat) (e0 : Int) (w : World) (h : Bs w v l) (hp : eT l = p) (he : decE l = e0) : Calls Try.prog 21 #[v] w fun e w' => e = .returned (.tuple #[.agg (arrOf 12 (qT p)), .int .i64 e0]) ∧ Below w.heap.size w w' := by
  rw [← hp, ← he]
  exact qTDecode_any v l w h
theorem qSmallB_any (p : Nat × Nat × Nat) (b : Bool) (w : World) (h : LtT p) (hb : qSmall p = b) : Calls Try.prog 22 #[.agg (arrOf 12 (qT p))] w fun e w' => e = .returned (.bool b) ∧ Below w.heap.size w w' := by
  rw [← hb]
  exact qTSmall_any p w h
theorem sStrictE_any (v : Value) (l : List UInt8) (S : Nat) (e0 : Int) (w : World) (h : Bs w v l) (hS : (strictSN l).getD 0 = S) (he : strictNE (strictSN l) = e0) : Calls Try.prog 23 #[v] w fun e w' => e = .returned (.tuple #[.agg (arrOf 4 (ewF S)), .int .i64 e0]) ∧ Below w.heap.size w w' := by
  rw [← hS, ← he]
  exact sStrict_any v l w h
set_option maxHeartbeats 4000000 in
set_option maxRecDepth 10000 in
theorem public_yes (v0 : Value) (l0 : List UInt8) (w : World) (h0 : Bs w v0 l0) (hl : l0.length = 32) : Calls Try.prog 9 #[v0] w fun e w' => ∃ v, e = .returned (.tuple #[v, .int .i64 0]) ∧ Owns w' w.heap.size v (edPub l0) ∧ Below w.heap.size w w' := by
  have HL := Lib.hid hl
  have f_b0 := h0
  clear h0 hl
  have Bw0 := Below.refl w.heap.size w
  have HGS : Hid (∀ wq : World, Below w.heap.size w wq → w.heap.size ≤ wq.heap.size) := Lib.hid fun wq h => h.size
  have HF_b0 := Lib.hid f_b0
  go_enter Try.func9, Try.ntmps9
  go_wp2_with (first
    | (have hgo := Bw0; clear hgo
       go_at_call 16
       refine (newSigner_yes _ _ _ f_b0 HL.out).mono ?_
       rintro e w4 ⟨v_s8, rfl, g_s8, kk⟩
       replace f_b0 := zfb f_b0 kk
       have Bw1 := zbt HGS Bw0 kk
       clear Bw0 kk)
    | (have hgo := Bw1; clear hgo
       go_at_call 18
       refine (sgPublic_any _ _ _ g_s8).mono ?_
       rintro e w11 ⟨v_s12, rfl, o_s12, kk⟩
       replace o_s12 := Owns.lower o_s12 (HGS.out _ Bw1)
       replace f_b0 := zfb f_b0 kk
       replace g_s8 := g_s8.belowJ kk
       have Bw2 := zbt HGS Bw1 kk
       clear Bw1 kk
       have f_s12 := o_s12.bs))
  go_ret2
  exact ⟨_, rfl, o_s12, Bw2⟩
set_option maxHeartbeats 4000000 in
set_option maxRecDepth 10000 in
theorem sign_no (v0 : Value) (l0 : List UInt8) (v1 : Value) (w : World) (h0 : Bs w v0 l0) (hl : ¬ l0.length = 32) : Calls Try.prog 10 #[v0, v1] w fun e w' => e = .returned (.tuple #[.slice none 0 0, .int .i64 1]) ∧ Below w.heap.size w w' := by
  have HL := Lib.hid hl
  have f_b0 := h0
  clear h0 hl
  have Bw0 := Below.refl w.heap.size w
  have HGS : Hid (∀ wq : World, Below w.heap.size w wq → w.heap.size ≤ wq.heap.size) := Lib.hid fun wq h => h.size
  have HF_b0 := Lib.hid f_b0
  go_enter Try.func10, Try.ntmps10
  go_wp2_with (first
    | (have hgo := Bw0; clear hgo
       go_at_call 16
       refine (newSigner_no _ _ _ f_b0 HL.out).mono ?_
       rintro e w4 ⟨rfl, kk⟩
       replace f_b0 := zfb f_b0 kk
       have Bw1 := zbt HGS Bw0 kk
       clear Bw0 kk)
    | (have hgo := Bw1; clear hgo
       go_at_call 17
       refine (sgSign_nil _ _).mono ?_
       rintro e w12 ⟨rfl, kk⟩
       replace f_b0 := zfb f_b0 kk
       have Bw2 := zbt HGS Bw1 kk
       clear Bw1 kk))
  go_ret2
  exact ⟨rfl, Bw2⟩
set_option maxHeartbeats 4000000 in
set_option maxRecDepth 10000 in
theorem sign_yes (v0 : Value) (l0 : List UInt8) (v1 : Value) (L0 : List (List UInt8)) (w : World) (h0 : Bs w v0 l0) (hl : l0.length = 32) (h1 : Bss w v1 L0) (hn : 2 + L0.length ≤ 2147483647) (hlL : L0.flatten.length < 2 ^ 29) : Calls Try.prog 10 #[v0, v1] w fun e w' => ∃ v, e = .returned (.tuple #[v, .int .i64 0]) ∧ Owns w' w.heap.size v (edSig l0 L0.flatten) ∧ Below w.heap.size w w' := by
  have HL := Lib.hid hl
  have HLS := Lib.hid h1
  have HN := Lib.hid hn
  have HLL := Lib.hid hlL
  clear h1 hn hlL
  have f_b0 := h0
  clear h0 hl
  have Bw0 := Below.refl w.heap.size w
  have HGS : Hid (∀ wq : World, Below w.heap.size w wq → w.heap.size ≤ wq.heap.size) := Lib.hid fun wq h => h.size
  have HF_b0 := Lib.hid f_b0
  go_enter Try.func10, Try.ntmps10
  go_wp2_with (first
    | (have hgo := Bw0; clear hgo
       go_at_call 16
       refine (newSigner_yes _ _ _ f_b0 HL.out).mono ?_
       rintro e w4 ⟨v_s10, rfl, g_s10, kk⟩
       replace f_b0 := zfb f_b0 kk
       have Bw1 := zbt HGS Bw0 kk
       clear Bw0 kk)
    | (have hgo := Bw1; clear hgo
       go_at_call 17
       refine (sgSign_any _ _ _ _ _ g_s10 (HLS.out.below Bw1 (Nat.le_refl _)) HN.out HLL.out).mono ?_
       rintro e w12 ⟨v_s15, rfl, o_s15, kk⟩
       replace o_s15 := Owns.lower o_s15 (HGS.out _ Bw1)
       replace f_b0 := zfb f_b0 kk
       replace g_s10 := g_s10.belowJ kk
       have Bw2 := zbt HGS Bw1 kk
       clear Bw1 kk
       have f_s15 := o_s15.bs))
  go_ret2
  exact ⟨_, rfl, o_s15, Bw2⟩
set_option maxHeartbeats 4000000 in
set_option maxRecDepth 10000 in
theorem verify_1 (v0 : Value) (l0 : List UInt8) (v1 : Value) (l1 : List UInt8) (v2 : Value) (L0 : List (List UInt8)) (w : World) (h0 : Bs w v0 l0) (h1 : Bs w v1 l1) (h2 : Bss w v2 L0) (hnl : 2 + L0.length ≤ 2147483647) (hl : l0.length + L0.flatten.length < 2 ^ 30) (hd : decE l0 = 12) : Calls Try.prog 12 #[v0, v1, v2] w fun e w' => e = .returned (.int .i64 12) ∧ Below w.heap.size w w' := by
  obtain ⟨ad1, n1, c1, rfl, e1, y1, z1, hB1⟩ := h1.shape
  obtain ⟨pP, hpP⟩ : ∃ p, p = eT l0 := ⟨_, rfl⟩
  have HpP : Hid (LtT pP) := Lib.hid (by rw [hpP]; exact LtT.read _)
  have HD1 := Lib.hid fun v w h => qDecodeE_any v l0 pP 12 w h hpP.symm hd
  have f_s_0 := h0
  have HF_s_0 := Lib.hid h0
  have f_s_1 := hB1
  have HF_s_1 := Lib.hid hB1
  clear h0 h1 h2 hB1 hpP hd hl hnl e1
  have Bw0 := Below.refl w.heap.size w
  have HGS : Hid (∀ wq : World, Below w.heap.size w wq → w.heap.size ≤ wq.heap.size) := Lib.hid fun wq h => h.size
  go_enter Try.func12, Try.ntmps12
  go_wp2_with (first
    | (have hgo := Bw0; clear hgo
       go_at_call 21
       refine (HD1.out _ _ f_s_0).mono ?_
       rintro e w3 ⟨rfl, kk⟩
       replace f_s_0 := zfb f_s_0 kk
       replace f_s_1 := zfb f_s_1 kk
       have Bw1 := zbt HGS Bw0 kk
       clear Bw0 kk)
    | (have hgo := Bw1; clear hgo
       refine wpList_alloc_row rfl 52 rfl 12 (u64f fun _ => 0) zeroQ ?_
       intro b_t7 w7 lk r_t7 kk
       have l_t7 := zrl HGS Bw1 lk
       have a_s_0_t7 := Bs.away f_s_0 lk
       have a_s_1_t7 := Bs.away f_s_1 lk
       replace f_s_0 := zfb f_s_0 kk
       replace f_s_1 := zfb f_s_1 kk
       have Bw2 := zbt HGS Bw1 kk
       clear Bw1 kk lk)
    | (have hgo := Bw2; clear hgo
       refine wpList_store_as rfl 52 (.tmp 7) (.tmp 15) rfl 12 (qT pP) arrQ r_t7 rfl rfl (by omega) (fun j _ => qF_one _ _ _ j) (fun i hi => putN_whole hi) ?_
       intro w8 q gk
       replace r_t7 := q
       have Bw3 := zbg HGS Bw2 gk l_t7
       replace f_s_0 := gb_bs f_s_0 gk a_s_0_t7
       replace f_s_1 := gb_bs f_s_1 gk a_s_1_t7
       clear Bw2 gk q))
  go_ret
  exact ⟨rfl, Bw3⟩
set_option maxHeartbeats 4000000 in
set_option maxRecDepth 10000 in
theorem verify_2 (v0 : Value) (l0 : List UInt8) (v1 : Value) (l1 : List UInt8) (v2 : Value) (L0 : List (List UInt8)) (w : World) (h0 : Bs w v0 l0) (h1 : Bs w v1 l1) (h2 : Bss w v2 L0) (hnl : 2 + L0.length ≤ 2147483647) (hl : l0.length + L0.flatten.length < 2 ^ 30) (hd : decE l0 = 0) (hs : pSmall (dT l0) = true) : Calls Try.prog 12 #[v0, v1, v2] w fun e w' => e = .returned (.int .i64 12) ∧ Below w.heap.size w w' := by
  obtain ⟨ad1, n1, c1, rfl, e1, y1, z1, hB1⟩ := h1.shape
  obtain ⟨pP, hpP⟩ : ∃ p, p = eT l0 := ⟨_, rfl⟩
  have HpP : Hid (LtT pP) := Lib.hid (by rw [hpP]; exact LtT.read _)
  have HD1 := Lib.hid fun v w h => qDecodeE_any v l0 pP 0 w h hpP.symm hd
  have HSM := Lib.hid fun w => qSmallB_any pP true w HpP.out (by rw [hpP, small_q]; exact hs)
  have f_s_0 := h0
  have HF_s_0 := Lib.hid h0
  have f_s_1 := hB1
  have HF_s_1 := Lib.hid hB1
  clear h0 h1 h2 hB1 hpP hd hl hnl e1 hs
  have Bw0 := Below.refl w.heap.size w
  have HGS : Hid (∀ wq : World, Below w.heap.size w wq → w.heap.size ≤ wq.heap.size) := Lib.hid fun wq h => h.size
  go_enter Try.func12, Try.ntmps12
  go_wp2_with (first
    | (have hgo := Bw0; clear hgo
       go_at_call 21
       refine (HD1.out _ _ f_s_0).mono ?_
       rintro e w3 ⟨rfl, kk⟩
       replace f_s_0 := zfb f_s_0 kk
       replace f_s_1 := zfb f_s_1 kk
       have Bw1 := zbt HGS Bw0 kk
       clear Bw0 kk)
    | (have hgo := Bw1; clear hgo
       refine wpList_alloc_row rfl 52 rfl 12 (u64f fun _ => 0) zeroQ ?_
       intro b_t7 w7 lk r_t7 kk
       have l_t7 := zrl HGS Bw1 lk
       have a_s_0_t7 := Bs.away f_s_0 lk
       have a_s_1_t7 := Bs.away f_s_1 lk
       replace f_s_0 := zfb f_s_0 kk
       replace f_s_1 := zfb f_s_1 kk
       have Bw2 := zbt HGS Bw1 kk
       clear Bw1 kk lk)
    | (have hgo := Bw2; clear hgo
       refine wpList_store_as rfl 52 (.tmp 7) (.tmp 15) rfl 12 (qT pP) arrQ r_t7 rfl rfl (by omega) (fun j _ => qF_one _ _ _ j) (fun i hi => putN_whole hi) ?_
       intro w8 q gk
       replace r_t7 := q
       have Bw3 := zbg HGS Bw2 gk l_t7
       replace f_s_0 := gb_bs f_s_0 gk a_s_0_t7
       replace f_s_1 := gb_bs f_s_1 gk a_s_1_t7
       clear Bw2 gk q)
    | (have hgo := Bw3; clear hgo
       refine wpList_load_asg rfl 52 (.tmp 7) rfl 12 (qT pP) arrQ r_t7 rfl (by omega) (fun i hi => by rw [Nat.zero_add]) ?_
       have Bw4 := Bw3
       clear Bw3)
    | (have hgo := Bw4; clear hgo
       go_at_call 22
       refine (HSM.out _).mono ?_
       rintro e w14 ⟨rfl, kk⟩
       replace r_t7 := zrb r_t7 kk
       replace f_s_0 := zfb f_s_0 kk
       replace f_s_1 := zfb f_s_1 kk
       have Bw5 := zbt HGS Bw4 kk
       clear Bw4 kk))
  go_ret
  exact ⟨rfl, Bw5⟩
set_option maxHeartbeats 4000000 in
set_option maxRecDepth 10000 in
theorem verify_3 (v0 : Value) (l0 : List UInt8) (v1 : Value) (l1 : List UInt8) (v2 : Value) (L0 : List (List UInt8)) (w : World) (h0 : Bs w v0 l0) (h1 : Bs w v1 l1) (h2 : Bss w v2 L0) (hnl : 2 + L0.length ≤ 2147483647) (hl : l0.length + L0.flatten.length < 2 ^ 30) (hd : decE l0 = 0) (hs : pSmall (dT l0) = false) (hn : ¬ l1.length = 64) : Calls Try.prog 12 #[v0, v1, v2] w fun e w' => e = .returned (.int .i64 3) ∧ Below w.heap.size w w' := by
  obtain ⟨ad1, n1, c1, rfl, e1, y1, z1, hB1⟩ := h1.shape
  obtain ⟨pP, hpP⟩ : ∃ p, p = eT l0 := ⟨_, rfl⟩
  have HpP : Hid (LtT pP) := Lib.hid (by rw [hpP]; exact LtT.read _)
  have HD1 := Lib.hid fun v w h => qDecodeE_any v l0 pP 0 w h hpP.symm hd
  have HSM := Lib.hid fun w => qSmallB_any pP false w HpP.out (by rw [hpP, small_q]; exact hs)
  have q1 : ¬ (n1 : Int) = 64 := by omega
  have f_s_0 := h0
  have HF_s_0 := Lib.hid h0
  have f_s_1 := hB1
  have HF_s_1 := Lib.hid hB1
  clear h0 h1 h2 hB1 hpP hd hl hnl e1 hs hn
  have Bw0 := Below.refl w.heap.size w
  have HGS : Hid (∀ wq : World, Below w.heap.size w wq → w.heap.size ≤ wq.heap.size) := Lib.hid fun wq h => h.size
  go_enter Try.func12, Try.ntmps12
  go_wp2_with (first
    | (have hgo := Bw0; clear hgo
       go_at_call 21
       refine (HD1.out _ _ f_s_0).mono ?_
       rintro e w3 ⟨rfl, kk⟩
       replace f_s_0 := zfb f_s_0 kk
       replace f_s_1 := zfb f_s_1 kk
       have Bw1 := zbt HGS Bw0 kk
       clear Bw0 kk)
    | (have hgo := Bw1; clear hgo
       refine wpList_alloc_row rfl 52 rfl 12 (u64f fun _ => 0) zeroQ ?_
       intro b_t7 w7 lk r_t7 kk
       have l_t7 := zrl HGS Bw1 lk
       have a_s_0_t7 := Bs.away f_s_0 lk
       have a_s_1_t7 := Bs.away f_s_1 lk
       replace f_s_0 := zfb f_s_0 kk
       replace f_s_1 := zfb f_s_1 kk
       have Bw2 := zbt HGS Bw1 kk
       clear Bw1 kk lk)
    | (have hgo := Bw2; clear hgo
       refine wpList_store_as rfl 52 (.tmp 7) (.tmp 15) rfl 12 (qT pP) arrQ r_t7 rfl rfl (by omega) (fun j _ => qF_one _ _ _ j) (fun i hi => putN_whole hi) ?_
       intro w8 q gk
       replace r_t7 := q
       have Bw3 := zbg HGS Bw2 gk l_t7
       replace f_s_0 := gb_bs f_s_0 gk a_s_0_t7
       replace f_s_1 := gb_bs f_s_1 gk a_s_1_t7
       clear Bw2 gk q)
    | (have hgo := Bw3; clear hgo
       refine wpList_load_asg rfl 52 (.tmp 7) rfl 12 (qT pP) arrQ r_t7 rfl (by omega) (fun i hi => by rw [Nat.zero_add]) ?_
       have Bw4 := Bw3
       clear Bw3)
    | (have hgo := Bw4; clear hgo
       go_at_call 22
       refine (HSM.out _).mono ?_
       rintro e w14 ⟨rfl, kk⟩
       replace r_t7 := zrb r_t7 kk
       replace f_s_0 := zfb f_s_0 kk
       replace f_s_1 := zfb f_s_1 kk
       have Bw5 := zbt HGS Bw4 kk
       clear Bw4 kk))
  go_ret
  exact ⟨rfl, Bw5⟩
set_option maxHeartbeats 4000000 in
set_option maxRecDepth 10000 in
theorem verify_4 (v0 : Value) (l0 : List UInt8) (v1 : Value) (l1 : List UInt8) (v2 : Value) (L0 : List (List UInt8)) (w : World) (h0 : Bs w v0 l0) (h1 : Bs w v1 l1) (h2 : Bss w v2 L0) (hnl : 2 + L0.length ≤ 2147483647) (hl : l0.length + L0.flatten.length < 2 ^ 30) (hd : decE l0 = 0) (hs : pSmall (dT l0) = false) (hn : l1.length = 64) (hr : decE (l1.take 32) = 12) : Calls Try.prog 12 #[v0, v1, v2] w fun e w' => e = .returned (.int .i64 3) ∧ Below w.heap.size w w' := by
  obtain ⟨ad1, n1, c1, rfl, e1, y1, z1, hB1⟩ := h1.shape
  obtain ⟨pP, hpP⟩ : ∃ p, p = eT l0 := ⟨_, rfl⟩
  have HpP : Hid (LtT pP) := Lib.hid (by rw [hpP]; exact LtT.read _)
  have HD1 := Lib.hid fun v w h => qDecodeE_any v l0 pP 0 w h hpP.symm hd
  have HSM := Lib.hid fun w => qSmallB_any pP false w HpP.out (by rw [hpP, small_q]; exact hs)
  have d1 : n1 = 64 := by omega
  subst d1
  have HL1 := Lib.hid hn
  have HTL : Hid ((l1.take 32).length = 32) := Lib.hid (by rw [List.length_take, hn]; rfl)
  obtain ⟨pQ, hpQ⟩ : ∃ p, p = eT (l1.take 32) := ⟨_, rfl⟩
  have HpQ : Hid (LtT pQ) := Lib.hid (by rw [hpQ]; exact LtT.read _)
  have HD2 := Lib.hid fun v w h => qDecodeE_any v (l1.take 32) pQ 12 w h hpQ.symm hr
  obtain ⟨S, hS⟩ := nat_var ((strictSN (l1.drop 32)).getD 0)
  have f_s_0 := h0
  have HF_s_0 := Lib.hid h0
  have f_s_1 := hB1
  have HF_s_1 := Lib.hid hB1
  clear h0 h1 h2 hB1 hpP hd hl hnl e1 hs hn hpQ hS hr
  have Bw0 := Below.refl w.heap.size w
  have HGS : Hid (∀ wq : World, Below w.heap.size w wq → w.heap.size ≤ wq.heap.size) := Lib.hid fun wq h => h.size
  go_enter Try.func12, Try.ntmps12
  go_wp2_with (first
    | (have hgo := Bw0; clear hgo
       go_at_call 21
       refine (HD1.out _ _ f_s_0).mono ?_
       rintro e w3 ⟨rfl, kk⟩
       replace f_s_0 := zfb f_s_0 kk
       replace f_s_1 := zfb f_s_1 kk
       have Bw1 := zbt HGS Bw0 kk
       clear Bw0 kk)
    | (have hgo := Bw1; clear hgo
       refine wpList_alloc_row rfl 52 rfl 12 (u64f fun _ => 0) zeroQ ?_
       intro b_t7 w7 lk r_t7 kk
       have l_t7 := zrl HGS Bw1 lk
       have a_s_0_t7 := Bs.away f_s_0 lk
       have a_s_1_t7 := Bs.away f_s_1 lk
       replace f_s_0 := zfb f_s_0 kk
       replace f_s_1 := zfb f_s_1 kk
       have Bw2 := zbt HGS Bw1 kk
       clear Bw1 kk lk)
    | (have hgo := Bw2; clear hgo
       refine wpList_store_as rfl 52 (.tmp 7) (.tmp 15) rfl 12 (qT pP) arrQ r_t7 rfl rfl (by omega) (fun j _ => qF_one _ _ _ j) (fun i hi => putN_whole hi) ?_
       intro w8 q gk
       replace r_t7 := q
       have Bw3 := zbg HGS Bw2 gk l_t7
       replace f_s_0 := gb_bs f_s_0 gk a_s_0_t7
       replace f_s_1 := gb_bs f_s_1 gk a_s_1_t7
       clear Bw2 gk q)
    | (have hgo := Bw3; clear hgo
       refine wpList_load_asg rfl 52 (.tmp 7) rfl 12 (qT pP) arrQ r_t7 rfl (by omega) (fun i hi => by rw [Nat.zero_add]) ?_
       have Bw4 := Bw3
       clear Bw3)
    | (have hgo := Bw4; clear hgo
       go_at_call 22
       refine (HSM.out _).mono ?_
       rintro e w14 ⟨rfl, kk⟩
       replace r_t7 := zrb r_t7 kk
       replace f_s_0 := zfb f_s_0 kk
       replace f_s_1 := zfb f_s_1 kk
       have Bw5 := zbt HGS Bw4 kk
       clear Bw4 kk)
    | (have hgo := Bw5; clear hgo
       obtain ⟨v_s28, f_s28, hr28⟩ := takeB f_s_1 32 (by rw [HL1.out]; decide)
       refine wpList_value rfl _ (by rw [exec_mkOp]; exact hr28 _ _ _ _ _ rfl rfl) ?_
       clear hr28
       have Bw6 := Bw5
       clear Bw5)
    | (have hgo := Bw6; clear hgo
       go_at_call 21
       refine (HD2.out _ _ f_s28).mono ?_
       rintro e w21 ⟨rfl, kk⟩
       replace r_t7 := zrb r_t7 kk
       replace f_s_0 := zfb f_s_0 kk
       replace f_s_1 := zfb f_s_1 kk
       replace f_s28 := zfb f_s28 kk
       have Bw7 := zbt HGS Bw6 kk
       clear Bw6 kk)
    | (have hgo := Bw7; clear hgo
       refine wpList_alloc_row rfl 52 rfl 12 (u64f fun _ => 0) zeroQ ?_
       intro b_t9 w25 lk r_t9 kk
       have n_t7_t9 := zrn r_t7 lk
       have l_t9 := zrl HGS Bw7 lk
       have a_s_0_t9 := Bs.away f_s_0 lk
       have a_s_1_t9 := Bs.away f_s_1 lk
       have a_s28_t9 := Bs.away f_s28 lk
       replace r_t7 := zrb r_t7 kk
       replace f_s_0 := zfb f_s_0 kk
       replace f_s_1 := zfb f_s_1 kk
       replace f_s28 := zfb f_s28 kk
       have Bw8 := zbt HGS Bw7 kk
       clear Bw7 kk lk)
    | (have hgo := Bw8; clear hgo
       refine wpList_store_as rfl 52 (.tmp 9) (.tmp 30) rfl 12 (qT pQ) arrQ r_t9 rfl rfl (by omega) (fun j _ => qF_one _ _ _ j) (fun i hi => putN_whole hi) ?_
       intro w26 q gk
       replace r_t7 := gb_rowIs r_t7 gk n_t7_t9
       replace r_t9 := q
       have Bw9 := zbg HGS Bw8 gk l_t9
       replace f_s_0 := gb_bs f_s_0 gk a_s_0_t9
       replace f_s_1 := gb_bs f_s_1 gk a_s_1_t9
       replace f_s28 := gb_bs f_s28 gk a_s28_t9
       clear Bw8 gk q))
  go_ret
  exact ⟨rfl, Bw9⟩
set_option maxHeartbeats 4000000 in
set_option maxRecDepth 10000 in
theorem verify_5 (v0 : Value) (l0 : List UInt8) (v1 : Value) (l1 : List UInt8) (v2 : Value) (L0 : List (List UInt8)) (w : World) (h0 : Bs w v0 l0) (h1 : Bs w v1 l1) (h2 : Bss w v2 L0) (hnl : 2 + L0.length ≤ 2147483647) (hl : l0.length + L0.flatten.length < 2 ^ 30) (hd : decE l0 = 0) (hs : pSmall (dT l0) = false) (hn : l1.length = 64) (hr : decE (l1.take 32) = 0) (hg : (strictSN (l1.drop 32)).isSome = false) : Calls Try.prog 12 #[v0, v1, v2] w fun e w' => e = .returned (.int .i64 3) ∧ Below w.heap.size w w' := by
  obtain ⟨ad1, n1, c1, rfl, e1, y1, z1, hB1⟩ := h1.shape
  obtain ⟨pP, hpP⟩ : ∃ p, p = eT l0 := ⟨_, rfl⟩
  have HpP : Hid (LtT pP) := Lib.hid (by rw [hpP]; exact LtT.read _)
  have HD1 := Lib.hid fun v w h => qDecodeE_any v l0 pP 0 w h hpP.symm hd
  have HSM := Lib.hid fun w => qSmallB_any pP false w HpP.out (by rw [hpP, small_q]; exact hs)
  have d1 : n1 = 64 := by omega
  subst d1
  have HL1 := Lib.hid hn
  have HTL : Hid ((l1.take 32).length = 32) := Lib.hid (by rw [List.length_take, hn]; rfl)
  obtain ⟨pQ, hpQ⟩ : ∃ p, p = eT (l1.take 32) := ⟨_, rfl⟩
  have HpQ : Hid (LtT pQ) := Lib.hid (by rw [hpQ]; exact LtT.read _)
  have HD2 := Lib.hid fun v w h => qDecodeE_any v (l1.take 32) pQ 0 w h hpQ.symm hr
  obtain ⟨S, hS⟩ := nat_var ((strictSN (l1.drop 32)).getD 0)
  have HSC := Lib.hid fun v w h => sStrictE_any v (l1.drop 32) S 2 w h hS.symm (by cases hx : strictSN (l1.drop 32) with | none => rfl | some _ => rw [hx] at hg; cases hg)
  have f_s_0 := h0
  have HF_s_0 := Lib.hid h0
  have f_s_1 := hB1
  have HF_s_1 := Lib.hid hB1
  clear h0 h1 h2 hB1 hpP hd hl hnl e1 hs hn hpQ hS hr hg
  have Bw0 := Below.refl w.heap.size w
  have HGS : Hid (∀ wq : World, Below w.heap.size w wq → w.heap.size ≤ wq.heap.size) := Lib.hid fun wq h => h.size
  go_enter Try.func12, Try.ntmps12
  go_wp2_with (first
    | (have hgo := Bw0; clear hgo
       go_at_call 21
       refine (HD1.out _ _ f_s_0).mono ?_
       rintro e w3 ⟨rfl, kk⟩
       replace f_s_0 := zfb f_s_0 kk
       replace f_s_1 := zfb f_s_1 kk
       have Bw1 := zbt HGS Bw0 kk
       clear Bw0 kk)
    | (have hgo := Bw1; clear hgo
       refine wpList_alloc_row rfl 52 rfl 12 (u64f fun _ => 0) zeroQ ?_
       intro b_t7 w7 lk r_t7 kk
       have l_t7 := zrl HGS Bw1 lk
       have a_s_0_t7 := Bs.away f_s_0 lk
       have a_s_1_t7 := Bs.away f_s_1 lk
       replace f_s_0 := zfb f_s_0 kk
       replace f_s_1 := zfb f_s_1 kk
       have Bw2 := zbt HGS Bw1 kk
       clear Bw1 kk lk)
    | (have hgo := Bw2; clear hgo
       refine wpList_store_as rfl 52 (.tmp 7) (.tmp 15) rfl 12 (qT pP) arrQ r_t7 rfl rfl (by omega) (fun j _ => qF_one _ _ _ j) (fun i hi => putN_whole hi) ?_
       intro w8 q gk
       replace r_t7 := q
       have Bw3 := zbg HGS Bw2 gk l_t7
       replace f_s_0 := gb_bs f_s_0 gk a_s_0_t7
       replace f_s_1 := gb_bs f_s_1 gk a_s_1_t7
       clear Bw2 gk q)
    | (have hgo := Bw3; clear hgo
       refine wpList_load_asg rfl 52 (.tmp 7) rfl 12 (qT pP) arrQ r_t7 rfl (by omega) (fun i hi => by rw [Nat.zero_add]) ?_
       have Bw4 := Bw3
       clear Bw3)
    | (have hgo := Bw4; clear hgo
       go_at_call 22
       refine (HSM.out _).mono ?_
       rintro e w14 ⟨rfl, kk⟩
       replace r_t7 := zrb r_t7 kk
       replace f_s_0 := zfb f_s_0 kk
       replace f_s_1 := zfb f_s_1 kk
       have Bw5 := zbt HGS Bw4 kk
       clear Bw4 kk)
    | (have hgo := Bw5; clear hgo
       obtain ⟨v_s28, f_s28, hr28⟩ := takeB f_s_1 32 (by rw [HL1.out]; decide)
       refine wpList_value rfl _ (by rw [exec_mkOp]; exact hr28 _ _ _ _ _ rfl rfl) ?_
       clear hr28
       have Bw6 := Bw5
       clear Bw5)
    | (have hgo := Bw6; clear hgo
       go_at_call 21
       refine (HD2.out _ _ f_s28).mono ?_
       rintro e w21 ⟨rfl, kk⟩
       replace r_t7 := zrb r_t7 kk
       replace f_s_0 := zfb f_s_0 kk
       replace f_s_1 := zfb f_s_1 kk
       replace f_s28 := zfb f_s28 kk
       have Bw7 := zbt HGS Bw6 kk
       clear Bw6 kk)
    | (have hgo := Bw7; clear hgo
       refine wpList_alloc_row rfl 52 rfl 12 (u64f fun _ => 0) zeroQ ?_
       intro b_t9 w25 lk r_t9 kk
       have n_t7_t9 := zrn r_t7 lk
       have l_t9 := zrl HGS Bw7 lk
       have a_s_0_t9 := Bs.away f_s_0 lk
       have a_s_1_t9 := Bs.away f_s_1 lk
       have a_s28_t9 := Bs.away f_s28 lk
       replace r_t7 := zrb r_t7 kk
       replace f_s_0 := zfb f_s_0 kk
       replace f_s_1 := zfb f_s_1 kk
       replace f_s28 := zfb f_s28 kk
       have Bw8 := zbt HGS Bw7 kk
       clear Bw7 kk lk)
    | (have hgo := Bw8; clear hgo
       refine wpList_store_as rfl 52 (.tmp 9) (.tmp 30) rfl 12 (qT pQ) arrQ r_t9 rfl rfl (by omega) (fun j _ => qF_one _ _ _ j) (fun i hi => putN_whole hi) ?_
       intro w26 q gk
       replace r_t7 := gb_rowIs r_t7 gk n_t7_t9
       replace r_t9 := q
       have Bw9 := zbg HGS Bw8 gk l_t9
       replace f_s_0 := gb_bs f_s_0 gk a_s_0_t9
       replace f_s_1 := gb_bs f_s_1 gk a_s_1_t9
       replace f_s28 := gb_bs f_s28 gk a_s28_t9
       clear Bw8 gk q)
    | (have hgo := Bw9; clear hgo
       obtain ⟨v_s36, f_s36, hr36⟩ := dropB f_s_1 32 (by rw [HL1.out]; decide)
       refine wpList_value rfl _ (by rw [exec_mkOp]; exact hr36 _ _ _ _ _ rfl rfl) ?_
       clear hr36
       have Bw10 := Bw9
       clear Bw9)
    | (have hgo := Bw10; clear hgo
       go_at_call 23
       refine (HSC.out _ _ f_s36).mono ?_
       rintro e w32 ⟨rfl, kk⟩
       replace r_t7 := zrb r_t7 kk
       replace r_t9 := zrb r_t9 kk
       replace f_s_0 := zfb f_s_0 kk
       replace f_s_1 := zfb f_s_1 kk
       replace f_s28 := zfb f_s28 kk
       replace f_s36 := zfb f_s36 kk
       have Bw11 := zbt HGS Bw10 kk
       clear Bw10 kk)
    | (have hgo := Bw11; clear hgo
       refine wpList_alloc_row rfl 56 rfl 4 (u64f fun _ => 0) zeroS ?_
       intro b_t10 w36 lk r_t10 kk
       have n_t7_t10 := zrn r_t7 lk
       have n_t9_t10 := zrn r_t9 lk
       have l_t10 := zrl HGS Bw11 lk
       have a_s_0_t10 := Bs.away f_s_0 lk
       have a_s_1_t10 := Bs.away f_s_1 lk
       have a_s28_t10 := Bs.away f_s28 lk
       have a_s36_t10 := Bs.away f_s36 lk
       replace r_t7 := zrb r_t7 kk
       replace r_t9 := zrb r_t9 kk
       replace f_s_0 := zfb f_s_0 kk
       replace f_s_1 := zfb f_s_1 kk
       replace f_s28 := zfb f_s28 kk
       replace f_s36 := zfb f_s36 kk
       have Bw12 := zbt HGS Bw11 kk
       clear Bw11 kk lk)
    | (have hgo := Bw12; clear hgo
       refine wpList_store_as rfl 56 (.tmp 10) (.tmp 38) rfl 4 (ewF S) arrS r_t10 rfl rfl (by omega) (fun _ _ => rfl) (fun i hi => putN_whole hi) ?_
       intro w37 q gk
       replace r_t7 := gb_rowIs r_t7 gk n_t7_t10
       replace r_t9 := gb_rowIs r_t9 gk n_t9_t10
       replace r_t10 := q
       have Bw13 := zbg HGS Bw12 gk l_t10
       replace f_s_0 := gb_bs f_s_0 gk a_s_0_t10
       replace f_s_1 := gb_bs f_s_1 gk a_s_1_t10
       replace f_s28 := gb_bs f_s28 gk a_s28_t10
       replace f_s36 := gb_bs f_s36 gk a_s36_t10
       clear Bw12 gk q))
  go_ret
  exact ⟨rfl, Bw13⟩
set_option maxHeartbeats 4000000 in
set_option maxRecDepth 10000 in
theorem verify_6 (v0 : Value) (l0 : List UInt8) (v1 : Value) (l1 : List UInt8) (v2 : Value) (L0 : List (List UInt8)) (w : World) (h0 : Bs w v0 l0) (h1 : Bs w v1 l1) (h2 : Bss w v2 L0) (hnl : 2 + L0.length ≤ 2147483647) (hl : l0.length + L0.flatten.length < 2 ^ 30) (hd : decE l0 = 0) (hs : pSmall (dT l0) = false) (hn : l1.length = 64) (hr : decE (l1.take 32) = 0) (hg : (strictSN (l1.drop 32)).isSome = true) (he : edSame l0 l1 L0.flatten = true) : Calls Try.prog 12 #[v0, v1, v2] w fun e w' => e = .returned (.int .i64 0) ∧ Below w.heap.size w w' := by
  obtain ⟨ad1, n1, c1, rfl, e1, y1, z1, hB1⟩ := h1.shape
  obtain ⟨pP, hpP⟩ : ∃ p, p = eT l0 := ⟨_, rfl⟩
  have HpP : Hid (LtT pP) := Lib.hid (by rw [hpP]; exact LtT.read _)
  have HD1 := Lib.hid fun v w h => qDecodeE_any v l0 pP 0 w h hpP.symm hd
  have HSM := Lib.hid fun w => qSmallB_any pP false w HpP.out (by rw [hpP, small_q]; exact hs)
  have d1 : n1 = 64 := by omega
  subst d1
  have HL1 := Lib.hid hn
  have HTL : Hid ((l1.take 32).length = 32) := Lib.hid (by rw [List.length_take, hn]; rfl)
  obtain ⟨pQ, hpQ⟩ : ∃ p, p = eT (l1.take 32) := ⟨_, rfl⟩
  have HpQ : Hid (LtT pQ) := Lib.hid (by rw [hpQ]; exact LtT.read _)
  have HD2 := Lib.hid fun v w h => qDecodeE_any v (l1.take 32) pQ 0 w h hpQ.symm hr
  obtain ⟨S, hS⟩ := nat_var ((strictSN (l1.drop 32)).getD 0)
  have HSC := Lib.hid fun v w h => sStrictE_any v (l1.drop 32) S 0 w h hS.symm (by cases hx : strictSN (l1.drop 32) with | none => rw [hx] at hg; cases hg | some _ => rfl)
  have HLS := Lib.hid h2
  obtain ⟨t0, ht⟩ : ∃ t, t = L0.flatten := ⟨_, rfl⟩
  rw [← ht] at he
  obtain ⟨K, hK⟩ := nat_var (edK (l1.take 32) l0 t0)
  have HF2 : Hid (([l1.take 32, l0] ++ L0).flatten = l1.take 32 ++ (l0 ++ t0)) := Lib.hid (by rw [ht, List.flatten_append]; simp only [List.flatten_cons, List.flatten_nil, List.append_nil, List.append_assoc])
  have HNK : Hid (numL (k512.sum ([l1.take 32, l0] ++ L0).flatten) 64 % ordL = K) := Lib.hid (by rw [HF2.out, hK]; unfold edK; simp only [List.flatten_cons, List.flatten_nil, List.append_nil])
  have hsame : qSame (qMul bT S) (qAdd pQ (qMul pP K)) = true := by rw [hpP, hpQ, hS, hK, same_q]; exact he
  obtain ⟨pS, hpS⟩ : ∃ p, p = qMul bT S := ⟨_, rfl⟩
  obtain ⟨pK, hpK⟩ : ∃ p, p = qMul pP K := ⟨_, rfl⟩
  have HMS := Lib.hid fun w => qTMul_any bT S w LtT.base
  have HMK := Lib.hid fun w => qTMul_any pP K w HpP.out
  have HpS : Hid (LtT pS) := Lib.hid (by rw [hpS]; exact LtT.oft _ _ _)
  have HpK : Hid (LtT pK) := Lib.hid (by rw [hpK]; exact LtT.oft _ _ _)
  rw [← hpS] at HMS hsame
  rw [← hpK] at HMK hsame
  obtain ⟨pX, hpX⟩ : ∃ p, p = qAdd pQ pK := ⟨_, rfl⟩
  have HMX := Lib.hid fun w => qTAdd_any pQ pK w HpQ.out HpK.out
  have HpX : Hid (LtT pX) := Lib.hid (by rw [hpX]; exact LtT.qAdd _ _)
  rw [← hpX] at HMX hsame
  have HME := Lib.hid fun w => qTSame_to pS pX true w HpS.out HpX.out hsame
  have HLE : Hid (l0.length + t0.length < 2 ^ 30) := Lib.hid (by rw [ht]; exact hl)
  have HN0 := Lib.hid hnl
  clear hK hpS hpK hpX hsame he ht
  have f_s_0 := h0
  have HF_s_0 := Lib.hid h0
  have f_s_1 := hB1
  have HF_s_1 := Lib.hid hB1
  clear h0 h1 h2 hB1 hpP hd hl hnl e1 hs hn hpQ hS hr hg
  have Bw0 := Below.refl w.heap.size w
  have HGS : Hid (∀ wq : World, Below w.heap.size w wq → w.heap.size ≤ wq.heap.size) := Lib.hid fun wq h => h.size
  go_enter Try.func12, Try.ntmps12
  go_wp2_with (first
    | (have hgo := Bw0; clear hgo
       go_at_call 21
       refine (HD1.out _ _ f_s_0).mono ?_
       rintro e w3 ⟨rfl, kk⟩
       replace f_s_0 := zfb f_s_0 kk
       replace f_s_1 := zfb f_s_1 kk
       have Bw1 := zbt HGS Bw0 kk
       clear Bw0 kk)
    | (have hgo := Bw1; clear hgo
       refine wpList_alloc_row rfl 52 rfl 12 (u64f fun _ => 0) zeroQ ?_
       intro b_t7 w7 lk r_t7 kk
       have l_t7 := zrl HGS Bw1 lk
       have a_s_0_t7 := Bs.away f_s_0 lk
       have a_s_1_t7 := Bs.away f_s_1 lk
       replace f_s_0 := zfb f_s_0 kk
       replace f_s_1 := zfb f_s_1 kk
       have Bw2 := zbt HGS Bw1 kk
       clear Bw1 kk lk)
    | (have hgo := Bw2; clear hgo
       refine wpList_store_as rfl 52 (.tmp 7) (.tmp 15) rfl 12 (qT pP) arrQ r_t7 rfl rfl (by omega) (fun j _ => qF_one _ _ _ j) (fun i hi => putN_whole hi) ?_
       intro w8 q gk
       replace r_t7 := q
       have Bw3 := zbg HGS Bw2 gk l_t7
       replace f_s_0 := gb_bs f_s_0 gk a_s_0_t7
       replace f_s_1 := gb_bs f_s_1 gk a_s_1_t7
       clear Bw2 gk q)
    | (have hgo := Bw3; clear hgo
       refine wpList_load_asg rfl 52 (.tmp 7) rfl 12 (qT pP) arrQ r_t7 rfl (by omega) (fun i hi => by rw [Nat.zero_add]) ?_
       have Bw4 := Bw3
       clear Bw3)
    | (have hgo := Bw4; clear hgo
       go_at_call 22
       refine (HSM.out _).mono ?_
       rintro e w14 ⟨rfl, kk⟩
       replace r_t7 := zrb r_t7 kk
       replace f_s_0 := zfb f_s_0 kk
       replace f_s_1 := zfb f_s_1 kk
       have Bw5 := zbt HGS Bw4 kk
       clear Bw4 kk)
    | (have hgo := Bw5; clear hgo
       obtain ⟨v_s28, f_s28, hr28⟩ := takeB f_s_1 32 (by rw [HL1.out]; decide)
       refine wpList_value rfl _ (by rw [exec_mkOp]; exact hr28 _ _ _ _ _ rfl rfl) ?_
       clear hr28
       have Bw6 := Bw5
       clear Bw5)
    | (have hgo := Bw6; clear hgo
       go_at_call 21
       refine (HD2.out _ _ f_s28).mono ?_
       rintro e w21 ⟨rfl, kk⟩
       replace r_t7 := zrb r_t7 kk
       replace f_s_0 := zfb f_s_0 kk
       replace f_s_1 := zfb f_s_1 kk
       replace f_s28 := zfb f_s28 kk
       have Bw7 := zbt HGS Bw6 kk
       clear Bw6 kk)
    | (have hgo := Bw7; clear hgo
       refine wpList_alloc_row rfl 52 rfl 12 (u64f fun _ => 0) zeroQ ?_
       intro b_t9 w25 lk r_t9 kk
       have n_t7_t9 := zrn r_t7 lk
       have l_t9 := zrl HGS Bw7 lk
       have a_s_0_t9 := Bs.away f_s_0 lk
       have a_s_1_t9 := Bs.away f_s_1 lk
       have a_s28_t9 := Bs.away f_s28 lk
       replace r_t7 := zrb r_t7 kk
       replace f_s_0 := zfb f_s_0 kk
       replace f_s_1 := zfb f_s_1 kk
       replace f_s28 := zfb f_s28 kk
       have Bw8 := zbt HGS Bw7 kk
       clear Bw7 kk lk)
    | (have hgo := Bw8; clear hgo
       refine wpList_store_as rfl 52 (.tmp 9) (.tmp 30) rfl 12 (qT pQ) arrQ r_t9 rfl rfl (by omega) (fun j _ => qF_one _ _ _ j) (fun i hi => putN_whole hi) ?_
       intro w26 q gk
       replace r_t7 := gb_rowIs r_t7 gk n_t7_t9
       replace r_t9 := q
       have Bw9 := zbg HGS Bw8 gk l_t9
       replace f_s_0 := gb_bs f_s_0 gk a_s_0_t9
       replace f_s_1 := gb_bs f_s_1 gk a_s_1_t9
       replace f_s28 := gb_bs f_s28 gk a_s28_t9
       clear Bw8 gk q)
    | (have hgo := Bw9; clear hgo
       obtain ⟨v_s36, f_s36, hr36⟩ := dropB f_s_1 32 (by rw [HL1.out]; decide)
       refine wpList_value rfl _ (by rw [exec_mkOp]; exact hr36 _ _ _ _ _ rfl rfl) ?_
       clear hr36
       have Bw10 := Bw9
       clear Bw9)
    | (have hgo := Bw10; clear hgo
       go_at_call 23
       refine (HSC.out _ _ f_s36).mono ?_
       rintro e w32 ⟨rfl, kk⟩
       replace r_t7 := zrb r_t7 kk
       replace r_t9 := zrb r_t9 kk
       replace f_s_0 := zfb f_s_0 kk
       replace f_s_1 := zfb f_s_1 kk
       replace f_s28 := zfb f_s28 kk
       replace f_s36 := zfb f_s36 kk
       have Bw11 := zbt HGS Bw10 kk
       clear Bw10 kk)
    | (have hgo := Bw11; clear hgo
       refine wpList_alloc_row rfl 56 rfl 4 (u64f fun _ => 0) zeroS ?_
       intro b_t10 w36 lk r_t10 kk
       have n_t7_t10 := zrn r_t7 lk
       have n_t9_t10 := zrn r_t9 lk
       have l_t10 := zrl HGS Bw11 lk
       have a_s_0_t10 := Bs.away f_s_0 lk
       have a_s_1_t10 := Bs.away f_s_1 lk
       have a_s28_t10 := Bs.away f_s28 lk
       have a_s36_t10 := Bs.away f_s36 lk
       replace r_t7 := zrb r_t7 kk
       replace r_t9 := zrb r_t9 kk
       replace f_s_0 := zfb f_s_0 kk
       replace f_s_1 := zfb f_s_1 kk
       replace f_s28 := zfb f_s28 kk
       replace f_s36 := zfb f_s36 kk
       have Bw12 := zbt HGS Bw11 kk
       clear Bw11 kk lk)
    | (have hgo := Bw12; clear hgo
       refine wpList_store_as rfl 56 (.tmp 10) (.tmp 38) rfl 4 (ewF S) arrS r_t10 rfl rfl (by omega) (fun _ _ => rfl) (fun i hi => putN_whole hi) ?_
       intro w37 q gk
       replace r_t7 := gb_rowIs r_t7 gk n_t7_t10
       replace r_t9 := gb_rowIs r_t9 gk n_t9_t10
       replace r_t10 := q
       have Bw13 := zbg HGS Bw12 gk l_t10
       replace f_s_0 := gb_bs f_s_0 gk a_s_0_t10
       replace f_s_1 := gb_bs f_s_1 gk a_s_1_t10
       replace f_s28 := gb_bs f_s28 gk a_s28_t10
       replace f_s36 := gb_bs f_s36 gk a_s36_t10
       clear Bw12 gk q)
    | (have hgo := Bw13; clear hgo
       obtain ⟨v_s44, f_s44, hr44⟩ := takeB f_s_1 32 (by rw [HL1.out]; decide)
       refine wpList_value rfl _ (by rw [exec_mkOp]; exact hr44 _ _ _ _ _ rfl rfl) ?_
       clear hr44
       have Bw14 := Bw13
       clear Bw13)
    | (have hgo := Bw14; clear hgo
       refine wpList_rowsF2 rfl (.tmp 44) (.tmp 45) rfl f_s44 f_s_0 rfl rfl ?_
       intro ad45 w45 F_r kk
       replace r_t7 := zrb r_t7 kk
       replace r_t9 := zrb r_t9 kk
       replace r_t10 := zrb r_t10 kk
       replace f_s_0 := zfb f_s_0 kk
       replace f_s_1 := zfb f_s_1 kk
       replace f_s28 := zfb f_s28 kk
       replace f_s36 := zfb f_s36 kk
       replace f_s44 := zfb f_s44 kk
       have Bw15 := zbt HGS Bw14 kk
       clear Bw14 kk)
    | (have hgo := Bw15; clear hgo
       go_at_call 24
       refine (number_to _ _ _ [l1.take 32, l0] L0 K _ (HLS.out.below Bw15 (Nat.le_refl _)) F_r (by have := HN0.out; simp; omega) (by have := HLE.out; rw [HF2.out, List.length_append, List.length_append, HTL.out]; omega) HNK.out).mono ?_
       rintro e w46 ⟨rfl, kk⟩
       clear F_r
       replace r_t7 := zrb r_t7 kk
       replace r_t9 := zrb r_t9 kk
       replace r_t10 := zrb r_t10 kk
       replace f_s_0 := zfb f_s_0 kk
       replace f_s_1 := zfb f_s_1 kk
       replace f_s28 := zfb f_s28 kk
       replace f_s36 := zfb f_s36 kk
       replace f_s44 := zfb f_s44 kk
       have Bw16 := zbt HGS Bw15 kk
       clear Bw15 kk)
    | (have hgo := Bw16; clear hgo
       refine wpList_alloc_row rfl 56 rfl 4 (u64f fun _ => 0) zeroS ?_
       intro b_t11 w47 lk r_t11 kk
       have n_t7_t11 := zrn r_t7 lk
       have n_t9_t11 := zrn r_t9 lk
       have n_t10_t11 := zrn r_t10 lk
       have l_t11 := zrl HGS Bw16 lk
       have a_s_0_t11 := Bs.away f_s_0 lk
       have a_s_1_t11 := Bs.away f_s_1 lk
       have a_s28_t11 := Bs.away f_s28 lk
       have a_s36_t11 := Bs.away f_s36 lk
       have a_s44_t11 := Bs.away f_s44 lk
       replace r_t7 := zrb r_t7 kk
       replace r_t9 := zrb r_t9 kk
       replace r_t10 := zrb r_t10 kk
       replace f_s_0 := zfb f_s_0 kk
       replace f_s_1 := zfb f_s_1 kk
       replace f_s28 := zfb f_s28 kk
       replace f_s36 := zfb f_s36 kk
       replace f_s44 := zfb f_s44 kk
       have Bw17 := zbt HGS Bw16 kk
       clear Bw16 kk lk)
    | (have hgo := Bw17; clear hgo
       refine wpList_store_as rfl 56 (.tmp 11) (.tmp 47) rfl 4 (ewF K) arrS r_t11 rfl rfl (by omega) (fun _ _ => rfl) (fun i hi => putN_whole hi) ?_
       intro w48 q gk
       replace r_t7 := gb_rowIs r_t7 gk n_t7_t11
       replace r_t9 := gb_rowIs r_t9 gk n_t9_t11
       replace r_t10 := gb_rowIs r_t10 gk n_t10_t11
       replace r_t11 := q
       have Bw18 := zbg HGS Bw17 gk l_t11
       replace f_s_0 := gb_bs f_s_0 gk a_s_0_t11
       replace f_s_1 := gb_bs f_s_1 gk a_s_1_t11
       replace f_s28 := gb_bs f_s28 gk a_s28_t11
       replace f_s36 := gb_bs f_s36 gk a_s36_t11
       replace f_s44 := gb_bs f_s44 gk a_s44_t11
       clear Bw17 gk q))
  clear f_s_0 f_s_1 f_s28 f_s36 f_s44
  go_wp2
  have Bw19 := Bw18.drew
  replace r_t7 := World.rowIs.drew r_t7
  replace r_t9 := World.rowIs.drew r_t9
  replace r_t10 := World.rowIs.drew r_t10
  replace r_t11 := World.rowIs.drew r_t11
  clear Bw18
  refine zpo [] (.rd 1 (.rd 3 (.rd 4 (.rd 5 .done)))) #[false, true, false, true, true, true, false, false, false, false] [0, 2, 6, 7, 8, 9] [some 48, some 50, some 54, some 55, some 56, some 57] [[], [0], [1], [2], [1, 3], [4]] [(0, []), (1, []), (2, [0, 1, 0]), (3, []), (4, []), (5, []), (6, [4, 5, 2]), (7, [3, 6, 6]), (8, [2, 7, 7]), (9, [8])] 58 ?_
  refine zld (ewF S) arrS r_t10 rfl (fun i hi => by rw [Nat.zero_add]) rfl rfl rfl rfl rfl (by omega) ?_
  simp only [Act.put, zA, zB, zC]
  refine zld (qT pQ) arrQ r_t9 rfl (fun i hi => by rw [Nat.zero_add]) rfl rfl rfl rfl rfl (by omega) ?_
  refine zld (qT pP) arrQ r_t7 rfl (fun i hi => by rw [Nat.zero_add]) rfl rfl rfl rfl rfl (by omega) ?_
  refine zld (ewF K) arrS r_t11 rfl (fun i hi => by rw [Nat.zero_add]) rfl rfl rfl rfl rfl (by omega) ?_
  simp only [Act.put, zA, zB, zC]
  refine lintz_leaf ?_
  refine po_start [.val (.agg (arrOf 12 (qT bT))), .val (.agg (arrOf 12 (qT pS))), .val (.agg (arrOf 12 (qT pK))), .val (.agg (arrOf 12 (qT pX))), .val (.bool true), .val (.bool false)] [] (fun i hi => absurd hi (Nat.not_lt_zero _)) (fun HWF m gz wa p az hp hm hmp hcl hdn hE hJ hS hO => ?_) (fun gz wa hE hJ => ?_)
  · rcases (show p = 0 ∨ p = 1 ∨ p = 2 ∨ p = 3 ∨ p = 4 ∨ p = 5 by have h9 : p < 6 := hp; omega) with rfl | rfl | rfl | rfl | rfl | rfl
    · exact po_k HWF hJ hE (qTBase_any _) rfl rfl rfl rfl rfl rfl (ar0)
    · have e49 : az.eval (.tmp 49) = .agg (arrOf 4 (ewF S)) := hO 49 rfl
      exact po_k HWF hJ hE (HMS.out _) rfl rfl rfl rfl rfl rfl (ar2 (po_e hS hdn hJ 0 48 rfl rfl rfl rfl) e49)
    · have e52 : az.eval (.tmp 52) = .agg (arrOf 12 (qT pP)) := hO 52 rfl
      have e53 : az.eval (.tmp 53) = .agg (arrOf 4 (ewF K)) := hO 53 rfl
      exact po_k HWF hJ hE (HMK.out _) rfl rfl rfl rfl rfl rfl (ar2 e52 e53)
    · have e51 : az.eval (.tmp 51) = .agg (arrOf 12 (qT pQ)) := hO 51 rfl
      exact po_k HWF hJ hE (HMX.out _) rfl rfl rfl rfl rfl rfl (ar2 e51 (po_e hS hdn hJ 2 54 rfl rfl rfl rfl))
    · exact po_k HWF hJ hE (HME.out _) rfl rfl rfl rfl rfl rfl (ar2 (po_e hS hdn hJ 1 50 rfl rfl rfl rfl) (po_e hS hdn hJ 3 55 rfl rfl rfl rfl))
    · have e56 := po_e hS hdn hJ 4 56 rfl rfl rfl rfl
      exact po_p (Op.unOp UnOp.not 4 (Operand.tmp 56)) HWF hJ hE rfl rfl rfl rfl rfl rfl rfl (by first | (simp only [execOp, mkOp, eval_const, e56]; done) | (simp only [execOp, mkOp, eval_const, e56]; go_simp))
  · rw [putO_true _ _ _ _ _ rfl]
    simp only [putA, Nat.zero_add, Nat.reduceAdd]
    rw [hJ.tt 0 rfl, hJ.tt 1 rfl, hJ.tt 2 rfl, hJ.tt 3 rfl, hJ.tt 4 rfl, hJ.tt 5 rfl]
    simp only [Act.put, zA, zB, zC]
    refine po_end ?_
    replace r_t7 := Keep.row hE r_t7 rfl
    replace r_t9 := Keep.row hE r_t9 rfl
    replace r_t10 := Keep.row hE r_t10 rfl
    replace r_t11 := Keep.row hE r_t11 rfl
    have Bw20 := hE.below Bw19 (HGS.out _ Bw19) rfl
    clear Bw19 hE hJ 
    go_wp2
    go_ret
    exact ⟨rfl, Bw20⟩
set_option maxHeartbeats 4000000 in
set_option maxRecDepth 10000 in
theorem verify_7 (v0 : Value) (l0 : List UInt8) (v1 : Value) (l1 : List UInt8) (v2 : Value) (L0 : List (List UInt8)) (w : World) (h0 : Bs w v0 l0) (h1 : Bs w v1 l1) (h2 : Bss w v2 L0) (hnl : 2 + L0.length ≤ 2147483647) (hl : l0.length + L0.flatten.length < 2 ^ 30) (hd : decE l0 = 0) (hs : pSmall (dT l0) = false) (hn : l1.length = 64) (hr : decE (l1.take 32) = 0) (hg : (strictSN (l1.drop 32)).isSome = true) (he : edSame l0 l1 L0.flatten = false) : Calls Try.prog 12 #[v0, v1, v2] w fun e w' => e = .returned (.int .i64 3) ∧ Below w.heap.size w w' := by
  obtain ⟨ad1, n1, c1, rfl, e1, y1, z1, hB1⟩ := h1.shape
  obtain ⟨pP, hpP⟩ : ∃ p, p = eT l0 := ⟨_, rfl⟩
  have HpP : Hid (LtT pP) := Lib.hid (by rw [hpP]; exact LtT.read _)
  have HD1 := Lib.hid fun v w h => qDecodeE_any v l0 pP 0 w h hpP.symm hd
  have HSM := Lib.hid fun w => qSmallB_any pP false w HpP.out (by rw [hpP, small_q]; exact hs)
  have d1 : n1 = 64 := by omega
  subst d1
  have HL1 := Lib.hid hn
  have HTL : Hid ((l1.take 32).length = 32) := Lib.hid (by rw [List.length_take, hn]; rfl)
  obtain ⟨pQ, hpQ⟩ : ∃ p, p = eT (l1.take 32) := ⟨_, rfl⟩
  have HpQ : Hid (LtT pQ) := Lib.hid (by rw [hpQ]; exact LtT.read _)
  have HD2 := Lib.hid fun v w h => qDecodeE_any v (l1.take 32) pQ 0 w h hpQ.symm hr
  obtain ⟨S, hS⟩ := nat_var ((strictSN (l1.drop 32)).getD 0)
  have HSC := Lib.hid fun v w h => sStrictE_any v (l1.drop 32) S 0 w h hS.symm (by cases hx : strictSN (l1.drop 32) with | none => rw [hx] at hg; cases hg | some _ => rfl)
  have HLS := Lib.hid h2
  obtain ⟨t0, ht⟩ : ∃ t, t = L0.flatten := ⟨_, rfl⟩
  rw [← ht] at he
  obtain ⟨K, hK⟩ := nat_var (edK (l1.take 32) l0 t0)
  have HF2 : Hid (([l1.take 32, l0] ++ L0).flatten = l1.take 32 ++ (l0 ++ t0)) := Lib.hid (by rw [ht, List.flatten_append]; simp only [List.flatten_cons, List.flatten_nil, List.append_nil, List.append_assoc])
  have HNK : Hid (numL (k512.sum ([l1.take 32, l0] ++ L0).flatten) 64 % ordL = K) := Lib.hid (by rw [HF2.out, hK]; unfold edK; simp only [List.flatten_cons, List.flatten_nil, List.append_nil])
  have hsame : qSame (qMul bT S) (qAdd pQ (qMul pP K)) = false := by rw [hpP, hpQ, hS, hK, same_q]; exact he
  obtain ⟨pS, hpS⟩ : ∃ p, p = qMul bT S := ⟨_, rfl⟩
  obtain ⟨pK, hpK⟩ : ∃ p, p = qMul pP K := ⟨_, rfl⟩
  have HMS := Lib.hid fun w => qTMul_any bT S w LtT.base
  have HMK := Lib.hid fun w => qTMul_any pP K w HpP.out
  have HpS : Hid (LtT pS) := Lib.hid (by rw [hpS]; exact LtT.oft _ _ _)
  have HpK : Hid (LtT pK) := Lib.hid (by rw [hpK]; exact LtT.oft _ _ _)
  rw [← hpS] at HMS hsame
  rw [← hpK] at HMK hsame
  obtain ⟨pX, hpX⟩ : ∃ p, p = qAdd pQ pK := ⟨_, rfl⟩
  have HMX := Lib.hid fun w => qTAdd_any pQ pK w HpQ.out HpK.out
  have HpX : Hid (LtT pX) := Lib.hid (by rw [hpX]; exact LtT.qAdd _ _)
  rw [← hpX] at HMX hsame
  have HME := Lib.hid fun w => qTSame_to pS pX false w HpS.out HpX.out hsame
  have HLE : Hid (l0.length + t0.length < 2 ^ 30) := Lib.hid (by rw [ht]; exact hl)
  have HN0 := Lib.hid hnl
  clear hK hpS hpK hpX hsame he ht
  have f_s_0 := h0
  have HF_s_0 := Lib.hid h0
  have f_s_1 := hB1
  have HF_s_1 := Lib.hid hB1
  clear h0 h1 h2 hB1 hpP hd hl hnl e1 hs hn hpQ hS hr hg
  have Bw0 := Below.refl w.heap.size w
  have HGS : Hid (∀ wq : World, Below w.heap.size w wq → w.heap.size ≤ wq.heap.size) := Lib.hid fun wq h => h.size
  go_enter Try.func12, Try.ntmps12
  go_wp2_with (first
    | (have hgo := Bw0; clear hgo
       go_at_call 21
       refine (HD1.out _ _ f_s_0).mono ?_
       rintro e w3 ⟨rfl, kk⟩
       replace f_s_0 := zfb f_s_0 kk
       replace f_s_1 := zfb f_s_1 kk
       have Bw1 := zbt HGS Bw0 kk
       clear Bw0 kk)
    | (have hgo := Bw1; clear hgo
       refine wpList_alloc_row rfl 52 rfl 12 (u64f fun _ => 0) zeroQ ?_
       intro b_t7 w7 lk r_t7 kk
       have l_t7 := zrl HGS Bw1 lk
       have a_s_0_t7 := Bs.away f_s_0 lk
       have a_s_1_t7 := Bs.away f_s_1 lk
       replace f_s_0 := zfb f_s_0 kk
       replace f_s_1 := zfb f_s_1 kk
       have Bw2 := zbt HGS Bw1 kk
       clear Bw1 kk lk)
    | (have hgo := Bw2; clear hgo
       refine wpList_store_as rfl 52 (.tmp 7) (.tmp 15) rfl 12 (qT pP) arrQ r_t7 rfl rfl (by omega) (fun j _ => qF_one _ _ _ j) (fun i hi => putN_whole hi) ?_
       intro w8 q gk
       replace r_t7 := q
       have Bw3 := zbg HGS Bw2 gk l_t7
       replace f_s_0 := gb_bs f_s_0 gk a_s_0_t7
       replace f_s_1 := gb_bs f_s_1 gk a_s_1_t7
       clear Bw2 gk q)
    | (have hgo := Bw3; clear hgo
       refine wpList_load_asg rfl 52 (.tmp 7) rfl 12 (qT pP) arrQ r_t7 rfl (by omega) (fun i hi => by rw [Nat.zero_add]) ?_
       have Bw4 := Bw3
       clear Bw3)
    | (have hgo := Bw4; clear hgo
       go_at_call 22
       refine (HSM.out _).mono ?_
       rintro e w14 ⟨rfl, kk⟩
       replace r_t7 := zrb r_t7 kk
       replace f_s_0 := zfb f_s_0 kk
       replace f_s_1 := zfb f_s_1 kk
       have Bw5 := zbt HGS Bw4 kk
       clear Bw4 kk)
    | (have hgo := Bw5; clear hgo
       obtain ⟨v_s28, f_s28, hr28⟩ := takeB f_s_1 32 (by rw [HL1.out]; decide)
       refine wpList_value rfl _ (by rw [exec_mkOp]; exact hr28 _ _ _ _ _ rfl rfl) ?_
       clear hr28
       have Bw6 := Bw5
       clear Bw5)
    | (have hgo := Bw6; clear hgo
       go_at_call 21
       refine (HD2.out _ _ f_s28).mono ?_
       rintro e w21 ⟨rfl, kk⟩
       replace r_t7 := zrb r_t7 kk
       replace f_s_0 := zfb f_s_0 kk
       replace f_s_1 := zfb f_s_1 kk
       replace f_s28 := zfb f_s28 kk
       have Bw7 := zbt HGS Bw6 kk
       clear Bw6 kk)
    | (have hgo := Bw7; clear hgo
       refine wpList_alloc_row rfl 52 rfl 12 (u64f fun _ => 0) zeroQ ?_
       intro b_t9 w25 lk r_t9 kk
       have n_t7_t9 := zrn r_t7 lk
       have l_t9 := zrl HGS Bw7 lk
       have a_s_0_t9 := Bs.away f_s_0 lk
       have a_s_1_t9 := Bs.away f_s_1 lk
       have a_s28_t9 := Bs.away f_s28 lk
       replace r_t7 := zrb r_t7 kk
       replace f_s_0 := zfb f_s_0 kk
       replace f_s_1 := zfb f_s_1 kk
       replace f_s28 := zfb f_s28 kk
       have Bw8 := zbt HGS Bw7 kk
       clear Bw7 kk lk)
    | (have hgo := Bw8; clear hgo
       refine wpList_store_as rfl 52 (.tmp 9) (.tmp 30) rfl 12 (qT pQ) arrQ r_t9 rfl rfl (by omega) (fun j _ => qF_one _ _ _ j) (fun i hi => putN_whole hi) ?_
       intro w26 q gk
       replace r_t7 := gb_rowIs r_t7 gk n_t7_t9
       replace r_t9 := q
       have Bw9 := zbg HGS Bw8 gk l_t9
       replace f_s_0 := gb_bs f_s_0 gk a_s_0_t9
       replace f_s_1 := gb_bs f_s_1 gk a_s_1_t9
       replace f_s28 := gb_bs f_s28 gk a_s28_t9
       clear Bw8 gk q)
    | (have hgo := Bw9; clear hgo
       obtain ⟨v_s36, f_s36, hr36⟩ := dropB f_s_1 32 (by rw [HL1.out]; decide)
       refine wpList_value rfl _ (by rw [exec_mkOp]; exact hr36 _ _ _ _ _ rfl rfl) ?_
       clear hr36
       have Bw10 := Bw9
       clear Bw9)
    | (have hgo := Bw10; clear hgo
       go_at_call 23
       refine (HSC.out _ _ f_s36).mono ?_
       rintro e w32 ⟨rfl, kk⟩
       replace r_t7 := zrb r_t7 kk
       replace r_t9 := zrb r_t9 kk
       replace f_s_0 := zfb f_s_0 kk
       replace f_s_1 := zfb f_s_1 kk
       replace f_s28 := zfb f_s28 kk
       replace f_s36 := zfb f_s36 kk
       have Bw11 := zbt HGS Bw10 kk
       clear Bw10 kk)
    | (have hgo := Bw11; clear hgo
       refine wpList_alloc_row rfl 56 rfl 4 (u64f fun _ => 0) zeroS ?_
       intro b_t10 w36 lk r_t10 kk
       have n_t7_t10 := zrn r_t7 lk
       have n_t9_t10 := zrn r_t9 lk
       have l_t10 := zrl HGS Bw11 lk
       have a_s_0_t10 := Bs.away f_s_0 lk
       have a_s_1_t10 := Bs.away f_s_1 lk
       have a_s28_t10 := Bs.away f_s28 lk
       have a_s36_t10 := Bs.away f_s36 lk
       replace r_t7 := zrb r_t7 kk
       replace r_t9 := zrb r_t9 kk
       replace f_s_0 := zfb f_s_0 kk
       replace f_s_1 := zfb f_s_1 kk
       replace f_s28 := zfb f_s28 kk
       replace f_s36 := zfb f_s36 kk
       have Bw12 := zbt HGS Bw11 kk
       clear Bw11 kk lk)
    | (have hgo := Bw12; clear hgo
       refine wpList_store_as rfl 56 (.tmp 10) (.tmp 38) rfl 4 (ewF S) arrS r_t10 rfl rfl (by omega) (fun _ _ => rfl) (fun i hi => putN_whole hi) ?_
       intro w37 q gk
       replace r_t7 := gb_rowIs r_t7 gk n_t7_t10
       replace r_t9 := gb_rowIs r_t9 gk n_t9_t10
       replace r_t10 := q
       have Bw13 := zbg HGS Bw12 gk l_t10
       replace f_s_0 := gb_bs f_s_0 gk a_s_0_t10
       replace f_s_1 := gb_bs f_s_1 gk a_s_1_t10
       replace f_s28 := gb_bs f_s28 gk a_s28_t10
       replace f_s36 := gb_bs f_s36 gk a_s36_t10
       clear Bw12 gk q)
    | (have hgo := Bw13; clear hgo
       obtain ⟨v_s44, f_s44, hr44⟩ := takeB f_s_1 32 (by rw [HL1.out]; decide)
       refine wpList_value rfl _ (by rw [exec_mkOp]; exact hr44 _ _ _ _ _ rfl rfl) ?_
       clear hr44
       have Bw14 := Bw13
       clear Bw13)
    | (have hgo := Bw14; clear hgo
       refine wpList_rowsF2 rfl (.tmp 44) (.tmp 45) rfl f_s44 f_s_0 rfl rfl ?_
       intro ad45 w45 F_r kk
       replace r_t7 := zrb r_t7 kk
       replace r_t9 := zrb r_t9 kk
       replace r_t10 := zrb r_t10 kk
       replace f_s_0 := zfb f_s_0 kk
       replace f_s_1 := zfb f_s_1 kk
       replace f_s28 := zfb f_s28 kk
       replace f_s36 := zfb f_s36 kk
       replace f_s44 := zfb f_s44 kk
       have Bw15 := zbt HGS Bw14 kk
       clear Bw14 kk)
    | (have hgo := Bw15; clear hgo
       go_at_call 24
       refine (number_to _ _ _ [l1.take 32, l0] L0 K _ (HLS.out.below Bw15 (Nat.le_refl _)) F_r (by have := HN0.out; simp; omega) (by have := HLE.out; rw [HF2.out, List.length_append, List.length_append, HTL.out]; omega) HNK.out).mono ?_
       rintro e w46 ⟨rfl, kk⟩
       clear F_r
       replace r_t7 := zrb r_t7 kk
       replace r_t9 := zrb r_t9 kk
       replace r_t10 := zrb r_t10 kk
       replace f_s_0 := zfb f_s_0 kk
       replace f_s_1 := zfb f_s_1 kk
       replace f_s28 := zfb f_s28 kk
       replace f_s36 := zfb f_s36 kk
       replace f_s44 := zfb f_s44 kk
       have Bw16 := zbt HGS Bw15 kk
       clear Bw15 kk)
    | (have hgo := Bw16; clear hgo
       refine wpList_alloc_row rfl 56 rfl 4 (u64f fun _ => 0) zeroS ?_
       intro b_t11 w47 lk r_t11 kk
       have n_t7_t11 := zrn r_t7 lk
       have n_t9_t11 := zrn r_t9 lk
       have n_t10_t11 := zrn r_t10 lk
       have l_t11 := zrl HGS Bw16 lk
       have a_s_0_t11 := Bs.away f_s_0 lk
       have a_s_1_t11 := Bs.away f_s_1 lk
       have a_s28_t11 := Bs.away f_s28 lk
       have a_s36_t11 := Bs.away f_s36 lk
       have a_s44_t11 := Bs.away f_s44 lk
       replace r_t7 := zrb r_t7 kk
       replace r_t9 := zrb r_t9 kk
       replace r_t10 := zrb r_t10 kk
       replace f_s_0 := zfb f_s_0 kk
       replace f_s_1 := zfb f_s_1 kk
       replace f_s28 := zfb f_s28 kk
       replace f_s36 := zfb f_s36 kk
       replace f_s44 := zfb f_s44 kk
       have Bw17 := zbt HGS Bw16 kk
       clear Bw16 kk lk)
    | (have hgo := Bw17; clear hgo
       refine wpList_store_as rfl 56 (.tmp 11) (.tmp 47) rfl 4 (ewF K) arrS r_t11 rfl rfl (by omega) (fun _ _ => rfl) (fun i hi => putN_whole hi) ?_
       intro w48 q gk
       replace r_t7 := gb_rowIs r_t7 gk n_t7_t11
       replace r_t9 := gb_rowIs r_t9 gk n_t9_t11
       replace r_t10 := gb_rowIs r_t10 gk n_t10_t11
       replace r_t11 := q
       have Bw18 := zbg HGS Bw17 gk l_t11
       replace f_s_0 := gb_bs f_s_0 gk a_s_0_t11
       replace f_s_1 := gb_bs f_s_1 gk a_s_1_t11
       replace f_s28 := gb_bs f_s28 gk a_s28_t11
       replace f_s36 := gb_bs f_s36 gk a_s36_t11
       replace f_s44 := gb_bs f_s44 gk a_s44_t11
       clear Bw17 gk q))
  clear f_s_0 f_s_1 f_s28 f_s36 f_s44
  go_wp2
  have Bw19 := Bw18.drew
  replace r_t7 := World.rowIs.drew r_t7
  replace r_t9 := World.rowIs.drew r_t9
  replace r_t10 := World.rowIs.drew r_t10
  replace r_t11 := World.rowIs.drew r_t11
  clear Bw18
  refine zpo [] (.rd 1 (.rd 3 (.rd 4 (.rd 5 .done)))) #[false, true, false, true, true, true, false, false, false, false] [0, 2, 6, 7, 8, 9] [some 48, some 50, some 54, some 55, some 56, some 57] [[], [0], [1], [2], [1, 3], [4]] [(0, []), (1, []), (2, [0, 1, 0]), (3, []), (4, []), (5, []), (6, [4, 5, 2]), (7, [3, 6, 6]), (8, [2, 7, 7]), (9, [8])] 58 ?_
  refine zld (ewF S) arrS r_t10 rfl (fun i hi => by rw [Nat.zero_add]) rfl rfl rfl rfl rfl (by omega) ?_
  simp only [Act.put, zA, zB, zC]
  refine zld (qT pQ) arrQ r_t9 rfl (fun i hi => by rw [Nat.zero_add]) rfl rfl rfl rfl rfl (by omega) ?_
  refine zld (qT pP) arrQ r_t7 rfl (fun i hi => by rw [Nat.zero_add]) rfl rfl rfl rfl rfl (by omega) ?_
  refine zld (ewF K) arrS r_t11 rfl (fun i hi => by rw [Nat.zero_add]) rfl rfl rfl rfl rfl (by omega) ?_
  simp only [Act.put, zA, zB, zC]
  refine lintz_leaf ?_
  refine po_start [.val (.agg (arrOf 12 (qT bT))), .val (.agg (arrOf 12 (qT pS))), .val (.agg (arrOf 12 (qT pK))), .val (.agg (arrOf 12 (qT pX))), .val (.bool false), .val (.bool true)] [] (fun i hi => absurd hi (Nat.not_lt_zero _)) (fun HWF m gz wa p az hp hm hmp hcl hdn hE hJ hS hO => ?_) (fun gz wa hE hJ => ?_)
  · rcases (show p = 0 ∨ p = 1 ∨ p = 2 ∨ p = 3 ∨ p = 4 ∨ p = 5 by have h9 : p < 6 := hp; omega) with rfl | rfl | rfl | rfl | rfl | rfl
    · exact po_k HWF hJ hE (qTBase_any _) rfl rfl rfl rfl rfl rfl (ar0)
    · have e49 : az.eval (.tmp 49) = .agg (arrOf 4 (ewF S)) := hO 49 rfl
      exact po_k HWF hJ hE (HMS.out _) rfl rfl rfl rfl rfl rfl (ar2 (po_e hS hdn hJ 0 48 rfl rfl rfl rfl) e49)
    · have e52 : az.eval (.tmp 52) = .agg (arrOf 12 (qT pP)) := hO 52 rfl
      have e53 : az.eval (.tmp 53) = .agg (arrOf 4 (ewF K)) := hO 53 rfl
      exact po_k HWF hJ hE (HMK.out _) rfl rfl rfl rfl rfl rfl (ar2 e52 e53)
    · have e51 : az.eval (.tmp 51) = .agg (arrOf 12 (qT pQ)) := hO 51 rfl
      exact po_k HWF hJ hE (HMX.out _) rfl rfl rfl rfl rfl rfl (ar2 e51 (po_e hS hdn hJ 2 54 rfl rfl rfl rfl))
    · exact po_k HWF hJ hE (HME.out _) rfl rfl rfl rfl rfl rfl (ar2 (po_e hS hdn hJ 1 50 rfl rfl rfl rfl) (po_e hS hdn hJ 3 55 rfl rfl rfl rfl))
    · have e56 := po_e hS hdn hJ 4 56 rfl rfl rfl rfl
      exact po_p (Op.unOp UnOp.not 4 (Operand.tmp 56)) HWF hJ hE rfl rfl rfl rfl rfl rfl rfl (by first | (simp only [execOp, mkOp, eval_const, e56]; done) | (simp only [execOp, mkOp, eval_const, e56]; go_simp))
  · rw [putO_true _ _ _ _ _ rfl]
    simp only [putA, Nat.zero_add, Nat.reduceAdd]
    rw [hJ.tt 0 rfl, hJ.tt 1 rfl, hJ.tt 2 rfl, hJ.tt 3 rfl, hJ.tt 4 rfl, hJ.tt 5 rfl]
    simp only [Act.put, zA, zB, zC]
    refine po_end ?_
    replace r_t7 := Keep.row hE r_t7 rfl
    replace r_t9 := Keep.row hE r_t9 rfl
    replace r_t10 := Keep.row hE r_t10 rfl
    replace r_t11 := Keep.row hE r_t11 rfl
    have Bw20 := hE.below Bw19 (HGS.out _ Bw19) rfl
    clear Bw19 hE hJ 
    go_wp2
    go_ret
    exact ⟨rfl, Bw20⟩
theorem verify_any (v0 : Value) (l0 : List UInt8) (v1 : Value) (l1 : List UInt8) (v2 : Value) (L0 : List (List UInt8)) (w : World) (h0 : Bs w v0 l0) (h1 : Bs w v1 l1) (h2 : Bss w v2 L0) (hnl : 2 + L0.length ≤ 2147483647) (hl : l0.length + L0.flatten.length < 2 ^ 30) :
    Calls Try.prog 12 #[v0, v1, v2] w fun e w' => e = .returned (.int .i64 (edVer l0 l1 L0.flatten)) ∧ Below w.heap.size w w' := by
  unfold edVer
  rcases decE_twoP l0 with hd | hd
  · rw [if_pos hd]
    exact verify_1 v0 l0 v1 l1 v2 L0 w h0 h1 h2 hnl hl hd
  · rw [if_neg (by rw [hd]; decide)]
    cases hs : pSmall (dT l0) with
    | true =>
      rw [if_pos rfl]
      exact verify_2 v0 l0 v1 l1 v2 L0 w h0 h1 h2 hnl hl hd hs
    | false =>
      rw [if_neg (by decide)]
      by_cases hn : l1.length = 64
      · rw [if_neg (fun k => k hn)]
        rcases decE_twoP (l1.take 32) with hr | hr
        · rw [if_pos hr]
          exact verify_4 v0 l0 v1 l1 v2 L0 w h0 h1 h2 hnl hl hd hs hn hr
        · rw [if_neg (by rw [hr]; decide)]
          cases hg : (strictSN (l1.drop 32)).isSome with
          | false =>
            rw [if_pos rfl]
            exact verify_5 v0 l0 v1 l1 v2 L0 w h0 h1 h2 hnl hl hd hs hn hr hg
          | true =>
            rw [if_neg (by decide)]
            cases he : edSame l0 l1 L0.flatten with
            | true =>
              rw [if_pos rfl]
              exact verify_6 v0 l0 v1 l1 v2 L0 w h0 h1 h2 hnl hl hd hs hn hr hg he
            | false =>
              rw [if_neg (by decide)]
              exact verify_7 v0 l0 v1 l1 v2 L0 w h0 h1 h2 hnl hl hd hs hn hr hg he
      · rw [if_pos hn]
        exact verify_3 v0 l0 v1 l1 v2 L0 w h0 h1 h2 hnl hl hd hs hn
end Go.Proofs.Ytonhpmaiagbheaa

/- Digits: flat.Hex, missiveref1.Hex. -/
set_option linter.unusedSimpArgs false
set_option linter.unusedVariables false
namespace Go.Proofs.Ytonhpmaiagbheaa
open Go.RowKit Go.Deep

end Go.Proofs.Ytonhpmaiagbheaa

/- Digits read: flat.digit, flat.Unhex, missiveref1.Unhex. -/
set_option linter.unusedSimpArgs false
set_option linter.unusedVariables false
namespace Go.Proofs.Ytonhpmaiagbheaa
open Go.RowKit Go.Deep

/-- The value of a small hex digit, -1 of any other byte. -/
def digVal (c : UInt8) : Int := if 48 ≤ c.toNat ∧ c.toNat ≤ 57 then (c.toNat : Int) - 48 else if 97 ≤ c.toNat ∧ c.toNat ≤ 102 then (c.toNat : Int) - 87 else -1

theorem digVal_ge (c : UInt8) : -1 ≤ digVal c ∧ digVal c ≤ 15 := by
  unfold digVal; split
  · omega
  · split <;> omega

/-- Byte i of a text's bytes. -/
def hiV (l : List UInt8) (i : Nat) : Int := digVal (l.getD (2 * i) 0)
def loV (l : List UInt8) (i : Nat) : Int := digVal (l.getD (2 * i + 1) 0)
/-- The pair i is one of digits. -/
def pairOk (l : List UInt8) (i : Nat) : Prop := 0 ≤ hiV l i ∧ 0 ≤ loV l i
def pairV (l : List UInt8) (i : Nat) : Nat := (16 * hiV l i + loV l i).toNat
/-- All of it is. -/
def hexOk (l : List UInt8) : Prop := l.length % 2 = 0 ∧ ∀ i, i < l.length / 2 → pairOk l i
def unhexB (l : List UInt8) : List UInt8 := (List.range (l.length / 2)).map fun i => UInt8.ofNat (pairV l i)
theorem pairV_lt (l : List UInt8) (i : Nat) : pairV l i < 256 := by
  have h1 := (digVal_ge (l.getD (2 * i) 0)).2
  have h2 := (digVal_ge (l.getD (2 * i + 1) 0)).2
  unfold pairV hiV loV; omega

/-- What Unhex answers. -/
def UnhexPost (w : World) (l : List UInt8) (e : Ending) (w' : World) : Prop :=
  Below w.heap.size w w' ∧ ((hexOk l ∧ ∃ v, e = .returned (.tuple #[v, .bool true]) ∧ Bs w' v (unhexB l)) ∨ (¬ hexOk l ∧ e = .returned (.tuple #[.slice none 0 0, .bool false])))

theorem str_getD (s : ByteArray) (i : Nat) (h : i < s.size) : s[i]'h = s.data.toList.getD i 0 := by
  have h2 : i < s.data.toList.length := by simpa using h
  rw [List.getD_eq_getElem?_getD, List.getElem?_eq_getElem h2]
  rfl

end Go.Proofs.Ytonhpmaiagbheaa

/- missiveref1.Unhex. -/
set_option linter.unusedSimpArgs false
set_option linter.unusedVariables false
namespace Go.Proofs.Ytonhpmaiagbheaa
open Go.RowKit Go.Deep

theorem digVal_num (c : UInt8) (h1 : 48 ≤ c.toNat) (h2 : c.toNat ≤ 57) : digVal c = (c.toNat : Int) - 48 := by unfold digVal; rw [if_pos ⟨h1, h2⟩]
theorem digVal_let (c : UInt8) (h1 : 97 ≤ c.toNat) (h2 : c.toNat ≤ 102) : digVal c = (c.toNat : Int) - 87 := by unfold digVal; rw [if_neg (by omega), if_pos ⟨h1, h2⟩]
theorem digVal_non (c : UInt8) (h1 : ¬ (48 ≤ c.toNat ∧ c.toNat ≤ 57)) (h2 : ¬ (97 ≤ c.toNat ∧ c.toNat ≤ 102)) : digVal c = -1 := by unfold digVal; rw [if_neg h1, if_neg h2]

/-- Where the inner loop stands. -/
def InnerAt (l : List UInt8) (j : Nat) (v k : Value) : Prop :=
  (k = .int .i64 0 ∧ v = .int .i64 0) ∨ (k = .int .i64 1 ∧ v = .int .i64 (hiV l j) ∧ 0 ≤ hiV l j) ∨ (k = .int .i64 2 ∧ v = .int .i64 (16 * hiV l j + loV l j) ∧ pairOk l j)

def unhexTo (l : List UInt8) (j : Nat) : List UInt8 := (List.range j).map fun i => UInt8.ofNat (pairV l i)
theorem unhexTo_succ (l : List UInt8) (j : Nat) : unhexTo l (j + 1) = unhexTo l j ++ [UInt8.ofNat (pairV l j)] := by
  unfold unhexTo; rw [List.range_succ, List.map_append]; rfl

set_option maxHeartbeats 3200000 in
theorem refUnhex_any (s : ByteArray) (w : World) (hlen : s.size ≤ 2147480000) :
    Calls Try.prog 20 #[.string s] w (UnhexPost w s.data.toList) := by
  have hsz : s.data.toList.length = s.size := by simp
  have HSZ := Lib.hid hsz
  clear hsz
  by_cases hodd : s.size % 2 = 0
  · obtain ⟨k, hk⟩ : ∃ k, s.size = 2 * k := ⟨s.size / 2, by omega⟩
    have htest : ((s.size : Int) % 2 != 0) = false := by simp; omega
    have hks : 2 * k ≤ s.size := by omega
    have hks2 : s.size ≤ 2 * k := by omega
    clear hk hodd
    go_enter Try.func20, Try.ntmps20
    go_wp2
    go_loopw [4, 5] (fun v i wr => ∃ j : Nat, j ≤ k ∧ i = .int .i64 (2 * (j : Int)) ∧ Owns wr w.heap.size v (unhexTo s.data.toList j) ∧ Below w.heap.size w wr ∧ Hid (∀ i, i < j → pairOk s.data.toList i)) (fun _ i _ => s.size - (intOf i).toNat)
    case atStart => exact ⟨0, Nat.zero_le _, rfl, Owns.nil _ _, Below.refl _ _, Lib.hid (fun i hi => absurd hi (by omega))⟩
    case round =>
      obtain ⟨j, hj, rfl, hown, hbel, HP⟩ := hrel
      by_cases hlt : j < k
      · have hjl : j < s.data.toList.length / 2 := by have := HSZ.out; omega
        have p1 : 2 * j < s.size := by omega
        have p2 : 2 * j + 1 < s.size := by omega
        have Hx : Hid (hiV s.data.toList j = digVal (s[2 * j]'p1)) := Lib.hid (by rw [str_getD s _ p1]; rfl)
        have Hy : Hid (loV s.data.toList j = digVal (s[2 * j + 1]'p2)) := Lib.hid (by rw [str_getD s _ p2]; rfl)
        have hlt' : 2 * (j : Int) < (s.size : Int) := by omega
        obtain ⟨wo, rfl⟩ : ∃ wo : World, wo = wr := ⟨_, rfl⟩
        go_wp2
        go_loop [6, 7] (fun v k => InnerAt s.data.toList j v k) (fun _ k => 2 - (intOf k).toNat)
        case atStart => exact .inl ⟨rfl, rfl⟩
        case round =>
          rcases hrel with ⟨rfl, rfl⟩ | ⟨rfl, rfl, hx0⟩ | ⟨rfl, rfl, hok⟩
          · have cn := digVal_num (s[2 * j]'p1)
            have cl := digVal_let (s[2 * j]'p1)
            have cx := digVal_non (s[2 * j]'p1)
            have cb := UInt8.toNat_lt (s[2 * j]'p1)
            rw [← Hx.out] at cn cl cx
            have CC := Lib.hid (And.intro cn (And.intro cl cx))
            clear cn cl cx Hx Hy
            have hi1 : 0 ≤ 2 * (j : Int) ∧ 2 * (j : Int) < (s.size : Int) := by omega
            generalize hc : s[2 * j]'p1 = c at *
            by_cases hn : 48 ≤ c.toNat ∧ c.toNat ≤ 57
            · have n1 : (48 : Int) ≤ (c.toNat : Int) := by omega
              have n2 : (c.toNat : Int) ≤ 57 := by omega
              go_wp2
              go_round
              case rel => exact .inr (.inl ⟨by go_num, by rw [CC.out.1 hn.1 hn.2], by rw [CC.out.1 hn.1 hn.2]; omega⟩)
              case measure => simp [intOf]
            · by_cases hl : 97 ≤ c.toNat ∧ c.toNat ≤ 102
              · have n1 : (97 : Int) ≤ (c.toNat : Int) := by omega
                have n2 : (c.toNat : Int) ≤ 102 := by omega
                go_wp2
                go_round
                case rel => exact .inr (.inl ⟨by go_num, by rw [CC.out.2.1 hl.1 hl.2]; go_num, by rw [CC.out.2.1 hl.1 hl.2]; omega⟩)
                case measure => simp [intOf]
              · have hbad : Hid (¬ hexOk s.data.toList) := Lib.hid (fun h => by have := (h.2 j hjl).1; rw [CC.out.2.2 hn hl] at this; omega)
                by_cases m1 : c.toNat < 48
                · have n1 : ¬ (48 : Int) ≤ (c.toNat : Int) := by omega
                  have n2 : ¬ (97 : Int) ≤ (c.toNat : Int) := by omega
                  go_wp2
                  go_ret2
                  exact ⟨hbel, .inr ⟨hbad.out, rfl⟩⟩
                · by_cases m2 : c.toNat < 97
                  · have n0 : (48 : Int) ≤ (c.toNat : Int) := by omega
                    have n1 : ¬ (c.toNat : Int) ≤ 57 := by omega
                    have n2 : ¬ (97 : Int) ≤ (c.toNat : Int) := by omega
                    go_wp2
                    go_ret2
                    exact ⟨hbel, .inr ⟨hbad.out, rfl⟩⟩
                  · have n0 : (48 : Int) ≤ (c.toNat : Int) := by omega
                    have n1 : ¬ (c.toNat : Int) ≤ 57 := by omega
                    have n2 : (97 : Int) ≤ (c.toNat : Int) := by omega
                    have n3 : ¬ (c.toNat : Int) ≤ 102 := by omega
                    go_wp2
                    go_ret2
                    exact ⟨hbel, .inr ⟨hbad.out, rfl⟩⟩
          · have cn := digVal_num (s[2 * j + 1]'p2)
            have cl := digVal_let (s[2 * j + 1]'p2)
            have cx := digVal_non (s[2 * j + 1]'p2)
            have cb := UInt8.toNat_lt (s[2 * j + 1]'p2)
            rw [← Hy.out] at cn cl cx
            have CC := Lib.hid (And.intro cn (And.intro cl cx))
            clear cn cl cx Hx Hy
            have hi1 : 0 ≤ 2 * (j : Int) + 1 ∧ 2 * (j : Int) + 1 < (s.size : Int) := by omega
            have hx1 := (digVal_ge (s.data.toList.getD (2 * j) 0)).2
            have HH : Hid (hiV s.data.toList j = digVal (s.data.toList.getD (2 * j) 0)) := Lib.hid rfl
            rw [← HH.out] at hx1
            generalize hxx : hiV s.data.toList j = x at *
            have HXX := Lib.hid hxx
            generalize hc : s[2 * j + 1]'p2 = c at *
            clear hxx HH
            by_cases hn : 48 ≤ c.toNat ∧ c.toNat ≤ 57
            · have n1 : (48 : Int) ≤ (c.toNat : Int) := by omega
              have n2 : (c.toNat : Int) ≤ 57 := by omega
              go_wp2
              go_round
              case rel => exact .inr (.inr ⟨by go_num, by rw [HXX.out, CC.out.1 hn.1 hn.2], by rw [HXX.out]; exact hx0, by rw [CC.out.1 hn.1 hn.2]; omega⟩)
              case measure => simp [intOf]
            · by_cases hl : 97 ≤ c.toNat ∧ c.toNat ≤ 102
              · have n1 : (97 : Int) ≤ (c.toNat : Int) := by omega
                have n2 : (c.toNat : Int) ≤ 102 := by omega
                go_wp2
                go_round
                case rel => exact .inr (.inr ⟨by go_num, by rw [HXX.out, CC.out.2.1 hl.1 hl.2]; go_num, by rw [HXX.out]; exact hx0, by rw [CC.out.2.1 hl.1 hl.2]; omega⟩)
                case measure => simp [intOf]
              · have hbad : Hid (¬ hexOk s.data.toList) := Lib.hid (fun h => by have := (h.2 j hjl).2; rw [CC.out.2.2 hn hl] at this; omega)
                by_cases m1 : c.toNat < 48
                · have n1 : ¬ (48 : Int) ≤ (c.toNat : Int) := by omega
                  have n2 : ¬ (97 : Int) ≤ (c.toNat : Int) := by omega
                  go_wp2
                  go_ret2
                  exact ⟨hbel, .inr ⟨hbad.out, rfl⟩⟩
                · by_cases m2 : c.toNat < 97
                  · have n0 : (48 : Int) ≤ (c.toNat : Int) := by omega
                    have n1 : ¬ (c.toNat : Int) ≤ 57 := by omega
                    have n2 : ¬ (97 : Int) ≤ (c.toNat : Int) := by omega
                    go_wp2
                    go_ret2
                    exact ⟨hbel, .inr ⟨hbad.out, rfl⟩⟩
                  · have n0 : (48 : Int) ≤ (c.toNat : Int) := by omega
                    have n1 : ¬ (c.toNat : Int) ≤ 57 := by omega
                    have n2 : (97 : Int) ≤ (c.toNat : Int) := by omega
                    have n3 : ¬ (c.toNat : Int) ≤ 102 := by omega
                    go_wp2
                    go_ret2
                    exact ⟨hbel, .inr ⟨hbad.out, rfl⟩⟩
          · have hv : 0 ≤ 16 * hiV s.data.toList j + loV s.data.toList j := by have := hok.1; have := hok.2; omega
            have hv2 := pairV_lt s.data.toList j
            have HV : Hid (16 * hiV s.data.toList j + loV s.data.toList j = ((pairV s.data.toList j : Nat) : Int)) := Lib.hid (by unfold pairV; omega)
            have hP' : Hid (∀ i, i < j + 1 → pairOk s.data.toList i) := Lib.hid fun i hi => (by rcases (show i < j ∨ i = j by omega) with h | rfl; exact HP.out i h; exact hok)
            rw [HV.out]
            have HS := Lib.hid (unhexTo_succ s.data.toList j)
            have HB : Hid (((UInt8.ofNat (pairV s.data.toList j)).toNat : Int) = ((pairV s.data.toList j : Nat) : Int)) := Lib.hid (by rw [UInt8.toNat_ofNat_of_lt' (show _ < 256 from hv2)])
            generalize pairV s.data.toList j = p at *
            clear hv HV hok Hx Hy HP
            have hone : Bs (wo.alloc (.cells #[.int .u8 ((p : Nat) : Int)] 5)) (.slice (some ⟨wo.heap.size, 0, none⟩) 1 1) [UInt8.ofNat p] := by rw [← HB.out]; exact Bs.one wo _
            have hO := Owns.alloc hown (.cells #[.int .u8 ((p : Nat) : Int)] 5)
            have HO := Lib.hid (And.intro hO hone)
            have hlenj : (unhexTo s.data.toList j).length = j := by simp [unhexTo]
            have HL := Lib.hid hlenj
            clear hO hone hlenj HB
            go_wp2_with (refine wpList_app rfl _ _ rfl w.heap.size _ _ _ _ HO.out.1 HO.out.2 rfl rfl (by rw [HL.out]; simp; omega) (by have := hbel.size; simp; omega) ?_; intro v2 w2 hown2 hgrow2)
            rw [← HS.out] at hown2
            have hbel3 : Below w.heap.size w w2 := (hbel.alloc hbel.size _).grown hgrow2 (by have := hbel.size; simp; omega) (Owns.block HO.out.1)
            clear hgrow2 HO hown hbel
            go_wp2
            go_roundw
            case rel => exact ⟨j + 1, by omega, by go_num, hown2, hbel3, hP'⟩
            case measure => simp [intOf]; omega
      · obtain rfl : j = k := by omega
        have hout : ¬ 2 * (j : Int) < (s.size : Int) := by omega
        have hrange : Hid (unhexB s.data.toList = unhexTo s.data.toList j) := Lib.hid (by unfold unhexB unhexTo; rw [HSZ.out, show s.size / 2 = j by omega])
        go_wp2
        go_ret2
        exact ⟨hbel, .inl ⟨⟨by rw [HSZ.out]; omega, fun i hi => HP.out i (by rw [HSZ.out] at hi; omega)⟩, _, rfl, by rw [hrange.out]; exact hown.bs⟩⟩
  · have htest : ((s.size : Int) % 2 != 0) = true := by simp; omega
    go_enter Try.func20, Try.ntmps20
    go_wp2
    go_ret2
    refine ⟨Below.refl _ _, .inr ⟨fun h => hodd ?_, rfl⟩⟩
    have := h.1
    rw [HSZ.out] at this
    exact this
end Go.Proofs.Ytonhpmaiagbheaa

/- The sums of "abc", by the kernel. -/
set_option linter.unusedSimpArgs false
set_option linter.unusedVariables false
namespace Go.Proofs.Ytonhpmaiagbheaa
open Go.RowKit Go.Deep

section
variable {n : Nat} (k : Kind n)
/-- The words of a block, the last first. -/
def Kind.evL (b : Nat → BitVec n) : Nat → List (BitVec n)
  | 0 => []
  | i + 1 => (if i < 16 then b i else k.low1 ((Kind.evL b i).getD 1 0) + (Kind.evL b i).getD 6 0 + k.low0 ((Kind.evL b i).getD 14 0) + (Kind.evL b i).getD 15 0) :: Kind.evL b i
theorem Kind.evL_get (b : Nat → BitVec n) : ∀ i t, t < i → (k.evL b i).getD (i - 1 - t) 0 = k.sched b t
  | 0, t, h => by omega
  | i + 1, t, h => by
    by_cases e : t = i
    · subst e
      rw [show t + 1 - 1 - t = 0 by omega, Kind.evL, List.getD_cons_zero]
      by_cases h16 : t < 16
      · rw [if_pos h16, Kind.sched_low _ _ _ h16]
      · rw [if_neg h16, Kind.sched_high _ _ _ (by omega), ← Kind.evL_get b t (t - 2) (by omega), ← Kind.evL_get b t (t - 7) (by omega), ← Kind.evL_get b t (t - 15) (by omega), ← Kind.evL_get b t (t - 16) (by omega)]
        rw [show t - 1 - (t - 2) = 1 by omega, show t - 1 - (t - 7) = 6 by omega, show t - 1 - (t - 15) = 14 by omega, show t - 1 - (t - 16) = 15 by omega]
    · rw [show i + 1 - 1 - t = (i - 1 - t) + 1 by omega, Kind.evL, List.getD_cons_succ]
      exact Kind.evL_get b i t (by omega)
theorem Kind.rnd_congr {W W' : Nat → BitVec n} (s : S8 n) : ∀ t, (∀ j, j < t → W j = W' j) → k.rnd W s t = k.rnd W' s t
  | 0, _ => rfl
  | t + 1, h => by rw [Kind.rnd, Kind.rnd, Kind.rnd_congr s t (fun j hj => h j (by omega)), h t (by omega)]
theorem Kind.press_ev (s : S8 n) (blk : List UInt8) : k.press s blk = S8.add s (k.rnd (fun t => (k.evL (k.word blk) k.rounds).getD (k.rounds - 1 - t) 0) s k.rounds) := by
  unfold Kind.press
  congr 1
  exact k.rnd_congr s _ fun j hj => (k.evL_get _ _ _ hj).symm
theorem Kind.sum_one (m : List UInt8) (h : (k.pad m).length / k.block = 1) : k.sum m = k.out (S8.add k.first (k.rnd (fun t => (k.evL (k.word (((k.pad m).drop (k.block * 0)).take k.block)) k.rounds).getD (k.rounds - 1 - t) 0) k.first k.rounds)) 8 := by
  unfold Kind.sum
  rw [h]
  show k.out (k.press k.first _) 8 = _
  rw [k.press_ev]
end
end Go.Proofs.Ytonhpmaiagbheaa

/- What the laws of chapter 9 share: the first public key, awake. -/
namespace Go.Proofs.Ytonhpmaiagbheaa
open Go.RowKit Go.Deep
set_option linter.unusedSimpArgs false
set_option linter.unusedVariables false

def kS : List UInt8 := [157, 97, 177, 157, 239, 253, 90, 96, 186, 132, 74, 244, 146, 236, 44, 196, 68, 73, 197, 105, 123, 50, 105, 25, 112, 59, 172, 3, 28, 174, 127, 96]
def hS : List UInt8 := [53, 124, 131, 134, 79, 40, 51, 203, 66, 122, 46, 241, 192, 10, 1, 60, 253, 255, 39, 104, 217, 128, 192, 163, 165, 32, 240, 6, 144, 77, 233, 15]
theorem sum_kS : (k512.sum kS).take 32 = hS := by
  rw [Kind.sum_one k512 kS (by kernel_rfl)]
  kernel_rfl
theorem clamp_hS : clampN hS < 2 * top := by decide +kernel
theorem edA_of (s l : List UInt8) (h : (k512.sum s).take 32 = l) (hc : clampN l < 2 * top) : edA s = clampN l % ordL := by
  unfold edA
  rw [h, wide_32 _ (litB_length _ _), numL_lit _ hc]
theorem edA_kS1 : edA kS = clampN hS % ordL := edA_of kS hS sum_kS clamp_hS
theorem edA_kS2 : clampN hS % ordL = 7196903412274038802701538263280187907152860435200743670699908441353638128764 := by decide +kernel
theorem edA_kS : edA kS = 7196903412274038802701538263280187907152860435200743670699908441353638128764 := edA_kS1.trans edA_kS2
theorem invP_pw9 (a : Nat) : invP a = pw p25 255 a (p25 - 2) := (pw_eq p25 255 a (p25 - 2) (by decide +kernel)).symm
theorem dP_lit9 : dP = 37095705934669439343138083508754565189542113879843219016388785533085940283555 := by
  unfold dP
  rw [invP_pw9]
  decide +kernel
def dLit : Nat := 37095705934669439343138083508754565189542113879843219016388785533085940283555
/-- A point's form, reckoned by the kernel. -/
def encW (a : Nat × Nat × Nat) : Nat := mulP a.2.1 (pw p25 255 a.2.2 (p25 - 2)) + mulP a.1 (pw p25 255 a.2.2 (p25 - 2)) % 2 * top
theorem encA_w (a : Nat × Nat × Nat) : encA a = encW a := by
  unfold encA encW
  rw [invP_pw9]
theorem pub_of (s : List UInt8) (A : Nat) (h : edA s = A) : edPub s = litB (encW (pmul dLit bT A)) 32 := by
  unfold edPub
  rw [h, encA_w, show dP = dLit from dP_lit9]
theorem pub_w : edPub kS = litB (encW (pmul dLit bT 7196903412274038802701538263280187907152860435200743670699908441353638128764)) 32 := pub_of kS _ edA_kS
theorem pub_w4 : (litB (encW (pmul dLit bT 7196903412274038802701538263280187907152860435200743670699908441353638128764)) 32).take 4 = [215, 90, 152, 1] := by decide +kernel
theorem pub_four : (edPub kS).take 4 = [215, 90, 152, 1] := by
  have h := pub_w4
  rwa [← pub_w] at h
theorem unhex_lit9 (s : ByteArray) (l : List UInt8) (w : World) (hs : s.size ≤ 2147480000) (hok : hexOk s.data.toList) (hl : unhexB s.data.toList = l) :
    Calls Try.prog 20 #[.string s] w fun e w' => ∃ v, e = .returned (.tuple #[v, .bool true]) ∧ Bs w' v l ∧ Below w.heap.size w w' :=
  (refUnhex_any s w hs).mono fun e w' h => by
    obtain ⟨hb, h | h⟩ := h
    · obtain ⟨_, v, h1, h2⟩ := h
      rw [hl] at h2
      exact ⟨v, h1, h2, hb⟩
    · exact absurd hok h.1
theorem hexOk_of9 (l : List UInt8) (h : (l.length % 2 == 0 && (List.range (l.length / 2)).all fun i => decide (0 ≤ hiV l i) && decide (0 ≤ loV l i)) = true) : hexOk l := by
  simp only [Bool.and_eq_true, beq_iff_eq, List.all_eq_true, List.mem_range, decide_eq_true_eq] at h
  exact ⟨h.1, fun i hi => h.2 i hi⟩
theorem unhex_kS (w : World) : Calls Try.prog 20 #[.string ⟨#[57, 100, 54, 49, 98, 49, 57, 100, 101, 102, 102, 100, 53, 97, 54, 48, 98, 97, 56, 52, 52, 97, 102, 52, 57, 50, 101, 99, 50, 99, 99, 52, 52, 52, 52, 57, 99, 53, 54, 57, 55, 98, 51, 50, 54, 57, 49, 57, 55, 48, 51, 98, 97, 99, 48, 51, 49, 99, 97, 101, 55, 102, 54, 48]⟩] w fun e w' => ∃ v, e = .returned (.tuple #[v, .bool true]) ∧ Bs w' v kS ∧ Below w.heap.size w w' :=
  unhex_lit9 _ _ w (by decide +kernel) (hexOk_of9 _ (by decide +kernel)) (by decide +kernel)
set_option maxHeartbeats 4000000 in
set_option maxRecDepth 10000 in
theorem awake9_any (w : World) : Calls Try.prog 8 #[] w fun e w' => e = .returned (.bool true) ∧ Below w.heap.size w w' := by
  have HPL := Lib.hid (edPub_length kS)
  have HP4 := Lib.hid pub_four
  have HPY := Lib.hid fun v w h => public_yes v kS w h (by decide)
  have HSN := Lib.hid fun w => sign_no (.slice none 0 0) [] (.slice none 0 0) w (Bs.nil w) (by decide)
  obtain ⟨pb, hpb⟩ : ∃ l, l = edPub kS := ⟨_, rfl⟩
  rw [← hpb] at HPL HP4 HPY
  clear hpb
  have Bw0 := Below.refl w.heap.size w
  have HGS : Hid (∀ wq : World, Below w.heap.size w wq → w.heap.size ≤ wq.heap.size) := Lib.hid fun wq h => h.size
  go_enter Try.func8, Try.ntmps8
  go_wp2_with (first
    | (have hgo := Bw0; clear hgo
       go_at_call 20
       refine (unhex_kS _).mono ?_
       rintro e w2 ⟨v_s8, rfl, f_s8, kk⟩
       have Bw1 := zbt HGS Bw0 kk
       clear Bw0 kk)
    | (have hgo := Bw1; clear hgo
       go_at_call 9
       refine (HPY.out _ _ f_s8).mono ?_
       rintro e w9 ⟨v_s13, rfl, o_s13, kk⟩
       replace f_s8 := zfb f_s8 kk
       have Bw2 := zbt HGS Bw1 kk
       clear Bw1 kk
       have f_s13 := o_s13.bs
       clear o_s13)
    | (have hgo := Bw2; clear hgo
       go_at_call 10
       refine (HSN.out _).mono ?_
       rintro e w15 ⟨rfl, kk⟩
       replace f_s8 := zfb f_s8 kk
       replace f_s13 := zfb f_s13 kk
       have Bw3 := zbt HGS Bw2 kk
       clear Bw2 kk
       obtain ⟨ad, n, c, rfl, e3, y3, z3, h3b⟩ := f_s13.shape
       have hn : n = 32 := by rw [← e3]; exact HPL.out
       subst hn
       have h5 := (Bs.take h3b (k := 4) (by omega)).conv
       rw [HP4.out] at h5
       clear f_s8 f_s13 h3b e3))
  go_ret
  exact ⟨rfl, Bw3⟩
end Go.Proofs.Ytonhpmaiagbheaa

/- What was signed is verified; of another S it is not. -/
namespace Go.Proofs.Ytonhpmaiagbheaa
open Go.RowKit Go.Deep
set_option linter.unusedSimpArgs false
set_option linter.unusedVariables false

theorem ptB_mod (n : Nat) : mulE (n % ordL) ptB = mulE n ptB := mulE_mod ptB_on ordL_zero n
theorem litB_num {V : Nat} (h : V < ordL) : numL (litB V 32) 32 = V := numL_lit V (Nat.lt_of_lt_of_le h (by decide +kernel))
theorem edA_clamp (s : List UInt8) : edA s = clampN ((k512.sum s).take 32) % ordL := by
  unfold edA
  rw [wide_32 _ (litB_length _ _), numL_lit]
  exact Nat.lt_of_lt_of_le (clampN_clamped _).2.1 (by decide +kernel)
theorem edA_ne (s : List UInt8) : edA s ≠ 0 := by
  rw [edA_clamp]
  exact fun h => (clampN_clamped _).ne (Nat.dvd_of_mod_eq_zero h)
/-- Another number below L is another point. -/
theorem mulB_inj {V W : Nat} (hV : V < ordL) (hW : W < ordL) (h : mulE V ptB = mulE W ptB) : V = W := by
  have hs : mulE (V + (ordL - W)) ptB = ptO := by
    rw [mulE_add ptB_on, h, ← mulE_add ptB_on, show W + (ordL - W) = ordL by omega, ordL_zero]
  have hd := ord_dvd hs
  obtain ⟨k, hk⟩ := hd
  have hk1 : k = 1 := by
    rcases Nat.lt_or_ge k 1 with h0 | h0
    · have : k = 0 := by omega
      subst this
      rw [Nat.mul_zero] at hk
      omega
    · rcases Nat.lt_or_ge 1 k with h2 | h2
      · have := Nat.mul_le_mul_left ordL h2
        omega
      · omega
  subst hk1
  rw [Nat.mul_one] at hk
  omega
theorem encN_dec {P : Nat × Nat} (hP : onE P) {l : List UInt8} (h : l = litB (encN P) 32) : decE l = 0 ∧ decP l = P := by
  have g := decN_enc hP
  rw [← h] at g
  unfold decE decP
  rw [g]
  exact ⟨rfl, rfl⟩
theorem enc_doc {K : Nat} (h : K < ordL) : encA (pmul dP bT K) = encN (mulE K ptB) := (RT.base.mul (Nat.lt_trans h ordL_256)).enc
theorem pub_dec (s : List UInt8) : decE (edPub s) = 0 ∧ decP (edPub s) = mulE (edA s) ptB := encN_dec (mulE_on ptB_on _) (by unfold edPub; rw [enc_doc (edA_lt s)])
theorem rr_dec (s t : List UInt8) : decE (edRR s t) = 0 ∧ decP (edRR s t) = mulE (edR s t) ptB := encN_dec (mulE_on ptB_on _) (by unfold edRR; rw [enc_doc (edR_lt s t)])
theorem pub_small (s : List UInt8) : pSmall (dT (edPub s)) = false := by
  rw [(RT.dec _).small, (pub_dec s).2]
  exact decide_eq_false (fun h => edA_ne s ((order_eight (edA_lt s)).1 h))
theorem sig_take (s t : List UInt8) : (edSig s t).take 32 = edRR s t := by
  rw [edSig_eq, List.take_left' (edRR_length s t)]
theorem sig_drop (s t : List UInt8) : (edSig s t).drop 32 = litB (edS s t) 32 := by
  rw [edSig_eq, List.drop_left' (edRR_length s t)]
theorem strict_lit {V : Nat} (h : V < ordL) : strictSN (litB V 32) = some V := by
  unfold strictSN
  rw [if_pos ⟨litB_length _ _, by rw [litB_num h]; exact h⟩, litB_num h]
/-- What Verify holds against S times the base. -/
theorem edS_sum (s t : List UInt8) : mulE (edS s t) ptB = addE (mulE (edR s t) ptB) (mulE (edK (edRR s t) (edPub s) t) (mulE (edA s) ptB)) := by
  unfold edS
  rw [ptB_mod, mulE_add ptB_on, ptB_mod, Nat.mul_comm, mulE_mul ptB_on]
/-- Of a signature's first half and any second one. -/
theorem same_of (s t l : List UInt8) (V : Nat) (h1 : l.take 32 = edRR s t) (h2 : strictSN (l.drop 32) = some V) (hV : V < ordL) : edSame (edPub s) l t = decide (V = edS s t) := by
  rw [edSame_eq, h1, h2, Option.getD_some, (rr_dec s t).2, (pub_dec s).2, ← edS_sum]
  exact decide_eq_decide.2 ⟨fun h => mulB_inj hV (edS_lt s t) h, fun h => by rw [h]⟩
theorem ver_sig (s t : List UInt8) : edVer (edPub s) (edSig s t) t = 0 := by
  have hs := strict_lit (edS_lt s t)
  rw [← sig_drop] at hs
  unfold edVer
  rw [if_neg (by rw [(pub_dec s).1]; decide), if_neg (by rw [pub_small]; decide), if_neg (fun h => h (edSig_length s t)), if_neg (by rw [sig_take, (rr_dec s t).1]; decide), if_neg (by rw [hs]; intro h; cases h),
    if_pos (by rw [same_of s t _ _ (sig_take s t) hs (edS_lt s t)]; exact decide_eq_true rfl)]
theorem ver_cut (s l t : List UInt8) (h : l.length ≠ 64) : edVer (edPub s) l t = 3 := by
  unfold edVer
  rw [if_neg (by rw [(pub_dec s).1]; decide), if_neg (by rw [pub_small]; decide), if_pos h]
/-- A second half that is another one: no number below L, or another. -/
theorem ver_other (s t F : List UInt8) (hF : F.length = 32) (hne : F ≠ litB (edS s t) 32) : edVer (edPub s) (edRR s t ++ F) t = 3 := by
  have h1 : (edRR s t ++ F).take 32 = edRR s t := List.take_left' (edRR_length s t)
  have h2 : (edRR s t ++ F).drop 32 = F := List.drop_left' (edRR_length s t)
  have hl : (edRR s t ++ F).length = 64 := by rw [List.length_append, edRR_length, hF]
  unfold edVer
  rw [if_neg (by rw [(pub_dec s).1]; decide), if_neg (by rw [pub_small]; decide), if_neg (fun h => h hl), if_neg (by rw [h1, (rr_dec s t).1]; decide)]
  cases hs : strictSN ((edRR s t ++ F).drop 32) with
  | none => exact if_pos rfl
  | some V =>
    rw [h2] at hs
    have hV : V < ordL ∧ V = numL F 32 := by
      unfold strictSN at hs
      by_cases hc : F.length = 32 ∧ numL F 32 < ordL
      · rw [if_pos hc] at hs
        cases hs
        exact ⟨hc.2, rfl⟩
      · rw [if_neg hc] at hs
        cases hs
    rw [if_neg (by intro h; cases h), if_neg]
    rw [same_of s t _ V h1 (by rw [h2]; exact hs) hV.1]
    intro h
    have e := of_decide_eq_true h
    exact hne (by rw [← e, hV.2, litB_numL F 32 hF])
theorem flip_ne (l : List UInt8) (k : Nat) (h : k < 8 * l.length) : flipB l k ≠ l := by
  intro e
  have hk : k / 8 < l.length := by omega
  have h2 : (flipB l k)[k / 8]'(by rw [flipB_length]; exact hk) = l[k / 8] := by simp only [e]
  unfold flipB at h2
  rw [List.getElem_set_self] at h2
  rw [List.getD_eq_getElem?_getD, List.getElem?_eq_getElem hk, Option.getD_some] at h2
  exact xor_ne _ (k % 8) (Nat.mod_lt _ (by decide)) h2
end Go.Proofs.Ytonhpmaiagbheaa

/- missivealike.Sum, missivealike.All: how many bytes rows have, held. -/
set_option linter.unusedSimpArgs false
set_option linter.unusedVariables false
namespace Go.Proofs.Ytonhpmaiagbheaa
open Go.RowKit Go.Deep

/-- The slice value v reads as the ints xs, none of which is negative. -/
def Ns (w : World) (v : Value) (xs : List Nat) : Prop :=
  ∃ (b off cap : Nat), v = .slice (some ⟨b, off, none⟩) xs.length cap ∧ b < w.heap.size ∧ ∀ i (h : i < xs.length), w.cell? ⟨b, off + i, none⟩ = some (.int .i64 (xs[i] : Int))

theorem Ns.two (w : World) (x y : Nat) : Ns (w.alloc (.cells #[.int .i64 (x : Int), .int .i64 (y : Int)] 3)) (.slice (some ⟨w.heap.size, 0, none⟩) 2 2) [x, y] := by
  refine ⟨_, _, _, rfl, by simp, fun i hi => ?_⟩
  match i, hi with
  | 0, _ => exact World.cell?_alloc_mark w _ 3 (0, 0) 0
  | 1, _ => exact World.cell?_alloc_mark w _ 3 (0, 0) 1

def sumTo (xs : List Nat) (j : Nat) : Nat := (xs.take j).sum
theorem sumTo_succ (xs : List Nat) (j : Nat) (h : j < xs.length) : sumTo xs (j + 1) = sumTo xs j + xs[j] := by
  unfold sumTo
  rw [List.take_succ_eq_append_getElem h, List.sum_append]
  simp only [List.sum_cons, List.sum_nil, Nat.add_zero]

set_option maxHeartbeats 800000 in
theorem sum_any (n : Nat) (v : Value) (xs : List Nat) (w : World) (hv : Ns w v xs) (hn : n ≤ 1099511627776) (hxs : ∀ x ∈ xs, x ≤ 9223372036854775807) (hlen : xs.length ≤ 1000000) :
    Calls Try.prog 19 #[.int .i64 n, v] w fun e w' => ∃ s : Nat, e = .returned (.int .i64 s) ∧ s ≤ 1099511627776 ∧ (s < 1099511627776 → s = n + xs.sum) ∧ w' = w := by
  obtain ⟨b, off, cap, rfl, _, hc⟩ := hv
  have HC := Lib.hid hc
  have HX := Lib.hid hxs
  have hlen2 : (xs.length : Int) ≤ 1000000 := by omega
  have hall : sumTo xs xs.length = xs.sum := by unfold sumTo; rw [List.take_length]
  have HALL := Lib.hid hall
  clear hc hxs hall
  go_enter Try.func19, Try.ntmps19
  go_wp2
  go_loop [0, 5] (fun s i => ∃ (j m : Nat), j ≤ xs.length ∧ i = .int .i64 j ∧ s = .int .i64 m ∧ m ≤ 1099511627776 ∧ Hid (m = n + sumTo xs j)) (fun _ i => xs.length - (intOf i).toNat)
  case atStart => exact ⟨0, n, Nat.zero_le _, rfl, rfl, hn, Lib.hid (by simp [sumTo])⟩
  case round =>
    obtain ⟨j, m, hj, rfl, rfl, hm, HM⟩ := hrel
    by_cases hlt : j < xs.length
    · have hcj := HC.out j hlt
      have hxj := HX.out xs[j] (List.getElem_mem _)
      have HS := Lib.hid (sumTo_succ xs j hlt)
      have hm0 : ¬ (1099511627776 : Int) < (m : Int) := by omega
      have hi1 : 0 ≤ (j : Int) ∧ (j : Int) < (xs.length : Int) := by omega
      generalize xs[j] = x at *
      by_cases hbig : 1099511627776 - (m : Int) < (x : Int)
      · go_wp2
        go_ret
        exact ⟨1099511627776, rfl, Nat.le_refl _, fun h => absurd h (by omega), rfl⟩
      · go_wp2
        go_round
        case rel => exact ⟨j + 1, m + x, by omega, by go_num, by go_num, by omega, Lib.hid (by rw [HS.out, HM.out]; omega)⟩
        case measure => simp [intOf]; omega
    · obtain rfl : j = xs.length := by omega
      go_wp2
      go_ret
      exact ⟨m, rfl, hm, fun _ => by rw [HM.out, HALL.out], rfl⟩

set_option maxHeartbeats 800000 in
theorem all_any (v : Value) (L : List (List UInt8)) (top : Nat) (w : World) (hv : Bss w v L) (ht : top < 1099511627776) :
    Calls Try.prog 7 #[v, .int .i64 top] w fun e w' => ∃ s : Nat, e = .returned (.int .i64 s) ∧ s ≤ 1099511627776 ∧ (s ≤ top → L.flatten.length + L.length ≤ top) ∧ Below w.heap.size w w' := by
  have HV := Lib.hid hv
  obtain ⟨a, cap, rfl, h1, h2, h3, h4⟩ := hv
  clear h3 h4
  unfold maxLen at h2
  have HALL := Lib.hid (catTo_all L L.length (Nat.le_refl _))
  generalize hn : L.length = n at *
  have HN := Lib.hid hn
  clear hn
  go_enter Try.func7, Try.ntmps7
  go_wp2
  go_loopw [5, 6] (fun s i wr => ∃ (j m : Nat), j ≤ n ∧ i = .int .i64 j ∧ s = .int .i64 m ∧ m ≤ 1099511627776 ∧ Hid (m ≤ top → m = (catTo L j).length + j) ∧ Below w.heap.size w wr) (fun _ i _ => n - (intOf i).toNat)
  case atStart => exact ⟨0, 0, Nat.zero_le _, rfl, rfl, by omega, Lib.hid (by simp [catTo]), Below.refl _ _⟩
  case round =>
    obtain ⟨j, m, hj, rfl, rfl, hm, HM, hbel⟩ := hrel
    by_cases hlt : j < n
    · by_cases hmt : m ≤ top
      · have hjl : j < L.length := by rw [HN.out]; exact hlt
        have HS := Lib.hid (catTo_succ L j hjl)
        obtain ⟨b, off, cap', he, _, _, hbl, hc⟩ := HV.out.open_cons (by rw [HN.out]; omega)
        rw [HN.out] at he
        cases he
        obtain ⟨u, hcj, hu⟩ := hc j hjl
        clear hc
        have hcr : wr.cell? ⟨b, off + j, none⟩ = some u := (hbel.cell (by exact hbl)).trans hcj
        obtain ⟨au, x, cu, rfl, hx, hx1, hx2, _⟩ := hu.shape
        have HXL := Lib.hid hx
        clear hx hu hcj
        have hi1 : 0 ≤ (j : Int) ∧ (j : Int) < (n : Int) := by omega
        have hN := Ns.two wr x 1
        have hx3 : ∀ y ∈ [x, 1], y ≤ 9223372036854775807 := by intro y hy; simp at hy; omega
        have HX3 := Lib.hid hx3
        clear hx3
        go_wp2_with fail
        refine (sum_any m _ [x, 1] _ hN hm HX3.out (by simp)).mono ?_
        rintro e w2 ⟨s, rfl, hs1, hs2, rfl⟩
        have HS2 := Lib.hid hs2
        clear hs2 hN
        go_wp2
        go_roundw
        case rel =>
          refine ⟨j + 1, s, by omega, by go_num, rfl, hs1, Lib.hid fun h => ?_, hbel.alloc hbel.size _⟩
          rw [HS.out, List.length_append, HXL.out, HS2.out (by omega), HM.out hmt]
          simp only [List.sum_cons, List.sum_nil]
          omega
        case measure => simp [intOf]; omega
      · go_wp2
        go_ret
        exact ⟨m, rfl, hm, fun h => absurd h hmt, hbel⟩
    · obtain rfl : j = n := by omega
      go_wp2
      go_ret
      refine ⟨m, rfl, hm, fun h => ?_, hbel⟩
      have := HM.out h
      rw [HALL.out] at this
      omega
end Go.Proofs.Ytonhpmaiagbheaa

/- missivealike.Cat; All and Round by their texts. -/
set_option linter.unusedSimpArgs false
set_option linter.unusedVariables false
namespace Go.Proofs.Ytonhpmaiagbheaa
open Go.RowKit Go.Deep

set_option maxHeartbeats 800000 in
theorem alikeCat_any (v : Value) (L : List (List UInt8)) (w : World) (hv : Bss w v L) (hlen : L.flatten.length ≤ 2147483647) :
    Calls Try.prog 13 #[v] w fun e w' => ∃ v', e = .returned v' ∧ Owns w' w.heap.size v' L.flatten ∧ Below w.heap.size w w' := by
  have HV := Lib.hid hv
  obtain ⟨a, cap, rfl, h1, h2, h3, h4⟩ := hv
  clear h3 h4
  unfold maxLen at h2
  go_enter Try.func13, Try.ntmps13
  go_wp2
  generalize hn : L.flatten.length = n at *
  have HN := Lib.hid hn
  clear hn
  go_loopw [3, 4] (fun v i wr => ∃ j : Nat, j ≤ L.length ∧ i = .int .i64 j ∧ Owns wr w.heap.size v (catTo L j) ∧ Below w.heap.size w wr) (fun _ i _ => L.length - (intOf i).toNat)
  case atStart => exact ⟨0, Nat.zero_le _, rfl, Owns.nil _ _, Below.refl _ _⟩
  case round =>
    obtain ⟨j, hj, rfl, hown, hbel⟩ := hrel
    by_cases hlt : j < L.length
    · have hsum : (catTo L j).length + L[j].length ≤ n := by
        have := catTo_le L (j + 1)
        rw [catTo_succ L j hlt, List.length_append] at this
        have := HN.out
        omega
      obtain ⟨b, off, cap', he, _, _, hbl, hc⟩ := HV.out.open_cons (by omega)
      cases he
      obtain ⟨u, hcj, hu⟩ := hc j hlt
      clear hc
      have hcr : wr.cell? ⟨b, off + j, none⟩ = some u := (hbel.cell (by exact hbl)).trans hcj
      have hur : Bs wr u L[j] := hu.below hbel (Nat.le_refl _)
      have HU := Lib.hid hur
      obtain ⟨au, cu, rfl, _, _, _, _⟩ := hu
      clear hur
      go_wp2_with (refine wpList_app rfl _ _ rfl w.heap.size _ _ (catTo L j) L[j] hown HU.out rfl rfl (by omega) (by have := hbel.size; omega) ?_; intro v2 w2 hown2 hgrow2)
      have hown3 : Owns w2 w.heap.size v2 (catTo L (j + 1)) := by rw [catTo_succ L j hlt]; exact hown2
      have hbel3 : Below w.heap.size w w2 := hbel.grown hgrow2 hbel.size (Owns.block hown)
      clear hown2 hgrow2 hown hbel hcr HU hsum
      go_wp2
      go_roundw
      case rel => exact ⟨j + 1, by omega, by go_num, hown3, hbel3⟩
      case measure => simp [intOf]; omega
    · obtain rfl : j = L.length := by omega
      go_wp2
      go_ret
      exact ⟨_, rfl, by rw [← catTo_all L L.length (Nat.le_refl _)]; exact hown, hbel⟩

end Go.Proofs.Ytonhpmaiagbheaa

/- Contracts for the laws of chapter 9. -/
namespace Go.Proofs.Ytonhpmaiagbheaa
open Go.RowKit Go.Deep
set_option linter.unusedSimpArgs false
set_option linter.unusedVariables false

theorem wpList_rows1g {ops : Array Oper} {rest : List Oper} {o : Oper} {a : Act} {w : World} {Q : Exit → Act → World → Prop} (hw : Region.wanted o (yielded ops a.tmps) = true) (x : Operand) (ho : o.op = .buildSlice 23 1 #[(0, x)]) {v1 : Value} {l1 : List UInt8} (h1 : Bs w v1 l1) (hx : a.eval x = v1)
    (h : ∀ v w', Bss w' v [l1] → Below w.heap.size w w' → wpList Try.prog ops Q rest (a.put o.dst v) w') : wpList Try.prog ops Q (o :: rest) a w := by
  have hr := exec_rowsP1 a.eval x o.type w h1 hx
  exact wpList_given hw fun _ hK => by
    unfold Oper.wp
    rw [exec_mkOp, ho, hr]
    exact hK _ _ (h _ _ (Bss.one h1 rfl) ((Below.refl _ _).alloc (Nat.le_refl _) _))
theorem SgAt.ptr {w : World} {v : Value} {s : List UInt8} (h : SgAt w v s) : ∃ b, v = .pointer (some ⟨b, 0, none⟩) := by
  obtain ⟨b, _, _, _, h, _⟩ := h
  exact ⟨b, h⟩
theorem po_mv {ops : Array Oper} {Q : Exit → Act → World → Prop} {bs : List Nat} {w0 : World} {i : Nat} {a : Act} {w : World} {o : Oper} {it : List PI} {olds : List Old} {m : List Bool} {g : Nat → Value} {p : Nat} {ds : List (Option Nat)} (d r : Nat) (s : Operand) {l0 : List UInt8} {u : Nat} (hwf : poWf it olds = true) (hp : p < m.length) (hmp : m.getD p true = false) (hJ : JG it olds w0.heap.size m g w) (hit : it.getD p .nil = .own l0 u) (hr : it.getD r .nil = .own l0 p) (hmr : m.getD r false = true)
    (holds : ∀ i, (h : i < olds.length) → olds[i].b < w0.heap.size) (hE : Keep bs w0 w)
    (ho : ops[i]? = some o) (hd : o.dst = some d) (hds : ds.getD p none = some d) (hop : o.op = .assign s) (hw : Region.wanted o (yielded ops a.tmps) = true) (hs : a.eval s = g r) :
    wpOp Try.prog ops Q i (fun a' w' => Keep bs w0 w' ∧ ∃ v, a' = a.put (ds.getD p none) v ∧ JG it olds w0.heap.size (m.set p true) (upd g p v) w') a w := by
  have hmp' : m.getD p false = false := by
    rw [List.getD_eq_getElem?_getD, List.getElem?_eq_getElem hp] at hmp ⊢
    exact hmp
  have hor := hJ.own hmr hr hmp'
  have hrun : (execOp a.eval (mkOp (.assign s) o.type)).run Try.prog w = .ok (.value (g r)) w := x_assign hs
  refine wpOp_step ho fun K' hK => ?_
  rw [if_pos hw]
  unfold Oper.wp
  rw [exec_mkOp, hop, hrun]
  exact hK _ _ ⟨hE, g r, by rw [hd, hds], hJ.app hwf hp hit hr hmr hmp' holds ⟨rfl, rfl, rfl, Nat.le_refl _, fun _ _ _ => rfl⟩ hor (.inl rfl)⟩
theorem verify_to (v0 : Value) (l0 : List UInt8) (v1 : Value) (l1 : List UInt8) (v2 : Value) (L0 : List (List UInt8)) (t : List UInt8) (e : Int) (w : World) (h0 : Bs w v0 l0) (h1 : Bs w v1 l1) (h2 : Bss w v2 L0) (ht : L0.flatten = t) (hnl : 2 + L0.length ≤ 2147483647) (hl : l0.length + t.length < 2 ^ 30) (he : edVer l0 l1 t = e) :
    Calls Try.prog 12 #[v0, v1, v2] w fun e' w' => e' = .returned (.int .i64 e) ∧ Below w.heap.size w w' := by
  subst ht he
  exact verify_any v0 l0 v1 l1 v2 L0 w h0 h1 h2 hnl hl
theorem public_to (v0 : Value) (l0 : List UInt8) (p : List UInt8) (w : World) (h0 : Bs w v0 l0) (hl : l0.length = 32) (hp : edPub l0 = p) : Calls Try.prog 9 #[v0] w fun e w' => ∃ v, e = .returned (.tuple #[v, .int .i64 0]) ∧ Owns w' w.heap.size v p ∧ Below w.heap.size w w' := by
  subst hp
  exact public_yes v0 l0 w h0 hl
theorem sign_to (v0 : Value) (l0 : List UInt8) (v1 : Value) (L0 : List (List UInt8)) (t s : List UInt8) (w : World) (h0 : Bs w v0 l0) (hl : l0.length = 32) (h1 : Bss w v1 L0) (ht : L0.flatten = t) (hn : 2 + L0.length ≤ 2147483647) (hlL : t.length < 2 ^ 29) (hs : edSig l0 t = s) : Calls Try.prog 10 #[v0, v1] w fun e w' => ∃ v, e = .returned (.tuple #[v, .int .i64 0]) ∧ Owns w' w.heap.size v s ∧ Below w.heap.size w w' := by
  subst ht hs
  exact sign_yes v0 l0 v1 L0 w h0 hl h1 hn hlL
theorem sgSign_to (v0 v1 : Value) (s0 : List UInt8) (L0 : List (List UInt8)) (t s : List UInt8) (w : World) (hs : SgAt w v0 s0) (h1 : Bss w v1 L0) (ht : L0.flatten = t) (hn : 2 + L0.length ≤ 2147483647) (hl : t.length < 2 ^ 29) (hs2 : edSig s0 t = s) : Calls Try.prog 17 #[v0, v1] w fun e w' => ∃ v', e = .returned v' ∧ Owns w' w.heap.size v' s ∧ Below w.heap.size w w' := by
  subst ht hs2
  exact sgSign_any v0 v1 s0 L0 w hs h1 hn hl
theorem sgPublic_to (v0 : Value) (s0 p : List UInt8) (w : World) (hs : SgAt w v0 s0) (hp : edPub s0 = p) : Calls Try.prog 18 #[v0] w fun e w' => ∃ v', e = .returned v' ∧ Owns w' w.heap.size v' p ∧ Below w.heap.size w w' := by
  subst hp
  exact sgPublic_any v0 s0 w hs
theorem alikeCat_to (v : Value) (L : List (List UInt8)) (t : List UInt8) (w : World) (hv : Bss w v L) (ht : L.flatten = t) (hlen : t.length ≤ 2147483647) : Calls Try.prog 13 #[v] w fun e w' => ∃ v', e = .returned v' ∧ Owns w' w.heap.size v' t ∧ Below w.heap.size w w' := by
  subst ht
  exact alikeCat_any v L w hv hlen
theorem flip_to9 (v : Value) (l : List UInt8) (x : Int) (F : List UInt8) (w : World) (h : Bs w v l) (hl : l.length = 32) (h0 : -9223372036854775808 ≤ x) (h1 : x ≤ 9223372036854775807) (hF : flipB l (x % 256).toNat = F) : Calls Try.prog 11 #[v, .int .i64 x] w fun e w' => ∃ v', e = .returned v' ∧ Owns w' w.heap.size v' F ∧ Below w.heap.size w w' := by
  have g := flipO_any v l x w h (by rw [hl]; decide) (by rw [hl]; decide) h0 h1
  rw [hl, show (8 * ((32 : Nat) : Int)) = 256 from rfl, hF] at g
  exact g
/-- A signature with one digit of S turned. -/
theorem ver_flip (s t : List UInt8) (x : Int) : edVer (edPub s) ((edSig s t).take 32 ++ flipB ((edSig s t).drop 32) (x % 256).toNat) t = 3 := by
  rw [sig_take, sig_drop]
  refine ver_other s t _ (by rw [flipB_length, litB_length]) (flip_ne _ _ ?_)
  rw [litB_length]
  omega
end Go.Proofs.Ytonhpmaiagbheaa

/- Four public keys of small order, or none: they verify nothing. -/
namespace Go.Proofs.Ytonhpmaiagbheaa
open Go.RowKit Go.Deep
set_option linter.unusedSimpArgs false
set_option linter.unusedVariables false

def pt4 : Nat × Nat := (19681161376707505956807079304988542015446066515923890162744021073123829784752, 0)
theorem pt4_on : onE pt4 := by
  refine ⟨by decide +kernel, p25_pos, ?_⟩
  unfold EC
  exact Int.dvd_of_emod_eq_zero (by decide +kernel)
theorem pt4_enc : encN pt4 = 0 := by decide +kernel
theorem small4 : pSame (pmul dLit (pt4.1, pt4.2, 1) 8) (0, 1, 1) = true := by decide +kernel
theorem pt4_eight : mulE 8 pt4 = ptO := by
  have hr : RT pt4 (pt4.1, pt4.2, 1) := ⟨pt4_on, ⟨pt4_on.1, pt4_on.2.1, one_ltp⟩, repP_aff pt4⟩
  have h := (hr.mul (show 8 < 2 ^ 256 by decide)).same RT.zero
  rw [show dP = dLit from dP_lit9, small4] at h
  exact of_decide_eq_true h.symm
theorem ptO_enc : encN ptO = 1 := by decide +kernel
theorem ptO_8 : mulE 8 ptO = ptO := mulE_zero 8
theorem ver_small {P : Nat × Nat} (hP : onE P) (h8 : mulE 8 P = ptO) {l : List UInt8} (h : l = litB (encN P) 32) (s t : List UInt8) : edVer l s t = 12 := by
  obtain ⟨h1, h2⟩ := encN_dec hP h
  unfold edVer
  rw [if_neg (by rw [h1]; decide), if_pos (by rw [(RT.dec _).small, h2]; exact decide_eq_true h8)]
theorem y0_eq : (List.replicate 32 (0 : UInt8)).set 0 (UInt8.ofNat 1) = litB 1 32 := by decide +kernel
theorem y2_eq : ((fillL 32).set 0 (UInt8.ofNat 237)).set 31 (UInt8.ofNat 127) = litB p25 32 := by decide +kernel
theorem y3_eq : List.replicate 32 (0 : UInt8) = litB 0 32 := by decide +kernel
theorem ver_y0 (s t : List UInt8) : edVer ((List.replicate 32 0).set 0 (UInt8.ofNat 1)) s t = 12 := ver_small ptO_on ptO_8 (by rw [ptO_enc]; exact y0_eq) s t
theorem ver_y1 (s t : List UInt8) : edVer (((fillL 32).set 0 (UInt8.ofNat 236)).set 31 (UInt8.ofNat 127)) s t = 12 := ver_small ptH_on ptH_8 (by rw [ptH_enc]; exact fill_end) s t
theorem ver_y3 (s t : List UInt8) : edVer (List.replicate 32 0) s t = 12 := ver_small pt4_on pt4_eight (by rw [pt4_enc]; exact y3_eq) s t
theorem num_p : ¬ numL (litB p25 32) 32 % top < p25 := by decide +kernel
theorem ver_y2 (s t : List UInt8) : edVer (((fillL 32).set 0 (UInt8.ofNat 237)).set 31 (UInt8.ofNat 127)) s t = 12 := by
  rw [y2_eq]
  have h : decN (litB p25 32) = none := by
    unfold decN
    exact if_neg (fun h => num_p h.2)
  unfold edVer
  refine if_pos ?_
  unfold decE
  rw [h]
  rfl
theorem round4_to (k : Int) (R : Nat) (w : World) (h0 : -9223372036854775808 ≤ k) (h1 : k ≤ 9223372036854775807) (h : k % 4 = (R : Int)) : Calls Try.prog 14 #[.int .i64 k, .int .i64 4] w fun e w' => e = .returned (.int .i64 (R : Int)) ∧ Below w.heap.size w w' := by
  refine (round_any k 4 w h0 h1 (by decide) (by decide)).mono ?_
  rintro e w' ⟨rfl, rfl⟩
  rw [h]
  exact ⟨rfl, Below.refl _ _⟩
end Go.Proofs.Ytonhpmaiagbheaa

/- A number's bytes made of its digits, and with L added: what the law of forms needs. -/
namespace Go.Proofs.Ytonhpmaiagbheaa
open Go.RowKit Go.Deep
set_option linter.unusedSimpArgs false
set_option linter.unusedVariables false

theorem refOrderO_any (w : World) : Calls Try.prog 15 #[] w fun e w' => ∃ v, e = .returned v ∧ Owns w' w.heap.size v (litB ordL 32) ∧ Below w.heap.size w w' := by
  have HO := Lib.hid fun w => refOrder_any w
  go_enter Try.func15, Try.ntmps15
  go_wp2_with (first
    | (go_at_call 30; refine (HO.out _).mono ?_; rintro e w1 ⟨rfl, hr, hb⟩
       have hBs := Bs.of_part2 (off := 0) (n := 32) hr (beL ordL) (beL_length ordL) (by omega) (by unfold maxLen; omega) fun i hi => by
         rw [beL_at]
         unfold bF
         rw [Nat.zero_add]
       have HT := Lib.hid (refTurned_any _ (beL ordL) _ hBs (by rw [beL_length]; omega))
       rw [beL_rev] at HT
       clear hr hBs)
    | (go_at_call 29; refine HT.out.mono ?_; rintro e w2 ⟨v2, rfl, hO, hb2⟩))
  go_ret
  exact ⟨_, rfl, hO.lower hb.size, hb.trans (hb2.mono hb.size)⟩
end Go.Proofs.Ytonhpmaiagbheaa

/- A signature with L added to its second half. -/
namespace Go.Proofs.Ytonhpmaiagbheaa
open Go.RowKit Go.Deep
set_option linter.unusedSimpArgs false
set_option linter.unusedVariables false

/-- Where i bytes of the sum are laid. -/
def mixS (rr : List UInt8) (S i : Nat) : List UInt8 := rr ++ ((litB (S + ordL) 32).take i ++ (litB S 32).drop i)
theorem mixS_length {rr : List UInt8} (S i : Nat) (h : rr.length = 32) (hi : i ≤ 32) : (mixS rr S i).length = 64 := by
  unfold mixS
  simp only [List.length_append, List.length_take, List.length_drop, litB_length, h]
  omega
theorem mixS_zero (rr : List UInt8) (S : Nat) : mixS rr S 0 = rr ++ litB S 32 := by simp [mixS]
theorem mixS_end (rr : List UInt8) (S : Nat) : mixS rr S 32 = rr ++ litB (S + ordL) 32 := by
  unfold mixS
  rw [List.take_of_length_le (by rw [litB_length]; decide), List.drop_of_length_le (by rw [litB_length]; decide), List.append_nil]
theorem mixS_get {rr : List UInt8} (S i : Nat) (h : rr.length = 32) (hi : i < 32) (hl : 32 + i < (mixS rr S i).length) : ((mixS rr S i)[32 + i]'hl).toNat = byteN S i := by
  have hb : i < (litB S 32).length := by rw [litB_length]; exact hi
  have e1 : (mixS rr S i)[32 + i]? = some ((litB S 32)[i]'hb) := by
    unfold mixS
    rw [List.getElem?_append_right (by omega), h, Nat.add_sub_cancel_left, List.getElem?_append_right (by rw [List.length_take, litB_length]; omega), List.length_take, litB_length, Nat.min_eq_left (Nat.le_of_lt hi), Nat.sub_self, List.getElem?_drop, Nat.add_zero, List.getElem?_eq_getElem hb]
  rw [List.getElem?_eq_getElem hl] at e1
  have e := Option.some.inj e1
  rw [e, litB_at, UInt8.toNat_ofNat']
  rfl
theorem mixS_set {rr : List UInt8} (S i z : Nat) (h : rr.length = 32) (hi : i < 32) (hz : z = byteN (S + ordL) i) : (mixS rr S i).set (32 + i) (UInt8.ofNat z) = mixS rr S (i + 1) := by
  unfold mixS
  rw [List.set_append_right _ _ (by omega), show 32 + i - rr.length = i by omega, List.set_append_right _ _ (by rw [List.length_take, litB_length]; omega)]
  congr 1
  have hl : i < (litB S 32).length := by rw [litB_length]; exact hi
  have hk : i < (litB (S + ordL) 32).length := by rw [litB_length]; exact hi
  rw [List.length_take, litB_length, Nat.min_eq_left (Nat.le_of_lt hi), Nat.sub_self, List.drop_eq_getElem_cons hl, List.set_cons_zero, List.take_succ_eq_append_getElem hk, List.append_assoc]
  congr 1
  rw [litB_at, hz]
  have e : UInt8.ofNat (byteN (S + ordL) i) = UInt8.ofNat ((S + ordL) / 256 ^ i) := by
    unfold byteN
    apply UInt8.toNat_inj.1
    rw [UInt8.toNat_ofNat', UInt8.toNat_ofNat', Nat.mod_mod]
  rw [e]
  rfl
theorem ver_more (s t : List UInt8) : edVer (edPub s) (edRR s t ++ litB (edS s t + ordL) 32) t = 3 := by
  refine ver_other s t _ (litB_length _ _) fun e => ?_
  have hS := edS_lt s t
  have h1 := numL_lit (edS s t + ordL) (Nat.lt_of_lt_of_le (Nat.add_lt_add_right hS ordL) (by decide +kernel))
  rw [e, litB_num hS] at h1
  exact absurd h1 (Nat.ne_of_lt (Nat.lt_add_of_pos_right ordL_pos))
theorem exec_neqstr {w : World} (ρ : Operand → Value) (x y : Operand) (t : TypeId) (l : List UInt8) (hx : ρ x = .string ⟨l.toArray⟩) (hy : ρ y = .string ⟨l.toArray⟩) : (execOp ρ (mkOp (.binOp .neq 9 x y 9) t)).run Try.prog w = .ok (.value (.bool false)) w := by
  simp only [execOp, mkOp, hx, hy]
  go_simp
end Go.Proofs.Ytonhpmaiagbheaa

/- From the reading of an argument to the words of the contracts: a slice of bytes, a slice of slices of bytes. -/
set_option linter.unusedSimpArgs false
set_option linter.unusedVariables false
namespace Go.Proofs.Ytonhpmaiagbheaa
open Go.ChangeShapes Go.WideShapes Go.ChangeAt Go.RowKit Go.Deep

/-- The numbers of a row of bytes, as bytes. -/
def asB (zs : List Int) : List UInt8 := zs.map fun n => UInt8.ofNat n.toNat

theorem asB_at (n : Int) (h : 0 ≤ n ∧ n ≤ 255) : ((UInt8.ofNat n.toNat).toNat : Int) = n := by
  rw [UInt8.toNat_ofNat_of_lt' (by show n.toNat < 256; omega)]; omega

/-- A row of numbers whose cells are known, read as bytes. -/
theorem bs_of_cells {W : World} {a : Option Addr} {len cap : Nat} {zs : List Int} (hl : len ≤ cap) (hm : cap ≤ maxLen) (hz : zs.length = cap) (hn : a = none → cap = 0)
    (hwz : ∀ n ∈ zs, (Lit.int .u8 n).wf = true) (hcell : ∀ x, a = some x → ∀ i, i < cap → W.cell? (x.add i) = some (.int .u8 (zs.getD i 0))) : Bs W (.slice a len cap) (asB (zs.take len)) := by
  have hlen : (asB (zs.take len)).length = len := by simp [asB]; omega
  refine ⟨a, cap, by rw [hlen], by omega, hm, hn, fun y hy i hi => ?_⟩
  rw [hlen] at hi
  have hc := hcell y hy i (by omega)
  refine ⟨by rw [← add_block y i]; exact World.block_lt_of_cell? W _ hc, ?_⟩
  rw [hc]
  have hi2 : i < zs.length := by omega
  have hg : zs.getD i 0 = zs[i] := by simp [hi2]
  have hw := bd_u8 (hwz zs[i] (List.getElem_mem _))
  rw [← hg] at hw
  have e : (asB (zs.take len))[i]'(by rw [hlen]; exact hi) = UInt8.ofNat (zs.getD i 0).toNat := by
    simp [asB, List.getElem?_eq_getElem (show i < zs.length by omega)]
  rw [e, asB_at _ hw]

theorem bs_of_trod {H : Type} {enc : TypeId × Value → H} {W : World} {a : Option Addr} {len cap : Nat} {d : DataW H} {ps : List MemPlace}
    (h : DataW.Trod enc Try.prog W 0 (fun _ => true) true 22 (.slice a len cap) d ps) : ∃ l, Bs W (.slice a len cap) l := by
  obtain ⟨fuel, hf⟩ := h
  rcases open_ints Try.underlying22 Try.underlying5 (by kernel_rfl) hf with ⟨hcs, _⟩ | ⟨x, l, c, zs, hcs, _, hl, hm, hz, _, hcell, hwz⟩
  · simp [Value.cells] at hcs
    obtain ⟨rfl, rfl, rfl⟩ := hcs
    exact ⟨[], Bs.nil W⟩
  · simp [Value.cells] at hcs
    obtain ⟨rfl, rfl, rfl⟩ := hcs
    have hz' : zs.length = cap := by simpa using hz
    exact ⟨_, bs_of_cells hl hm hz' (fun h => by cases h) hwz (fun y hy i hi => by cases hy; exact hcell i (by omega))⟩

theorem bss_of_trod {H : Type} {enc : TypeId × Value → H} {W : World} {a : Option Addr} {len cap : Nat} {d : DataW H} {ps : List MemPlace}
    (h : DataW.Trod enc Try.prog W 0 (fun _ => true) true 23 (.slice a len cap) d ps) : ∃ L, Bss W (.slice a len cap) L := by
  obtain ⟨fuel, hf⟩ := h
  rcases open_int_rows Try.underlying23 Try.underlying22 Try.underlying5 (by kernel_rfl) (by kernel_rfl) hf with ⟨hcs, _⟩ | ⟨x, l, c, A, L, C, Z, hcs, _, hl, hm, _, hrow⟩
  · simp [Value.cells] at hcs
    obtain ⟨rfl, rfl, rfl⟩ := hcs
    exact ⟨[], none, 0, rfl, by simp, by simp [maxLen], fun _ => rfl, fun y hy => by cases hy⟩
  · simp [Value.cells] at hcs
    obtain ⟨rfl, rfl, rfl⟩ := hcs
    refine ⟨(List.range len).map fun r => asB ((Z r).take (L r)), some x, cap, by simp, by simpa using hl, hm, (fun h => by cases h), fun y hy i hi => ?_⟩
    cases hy
    have hi' : i < len := by simpa using hi
    obtain ⟨g1, g2, g3, g4, g5, g6, g7⟩ := hrow i (by omega)
    refine ⟨by rw [← add_block x i]; exact World.block_lt_of_cell? W _ g1, _, g1, ?_⟩
    have := bs_of_cells g2 g3 g4 g6 g5 (fun y hy j hj => (g7 y hy).2 j hj)
    simpa using this
end Go.Proofs.Ytonhpmaiagbheaa
