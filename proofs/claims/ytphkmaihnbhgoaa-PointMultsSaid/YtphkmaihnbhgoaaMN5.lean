/- Texts joined: what they are for stands ahead of each. -/
import Derived.Test.YtphkmaihnbhgoaaMN4
import Derived.ProofKit
import Derived.OpenShut
import Derived.ChangeOld
import Derived.Deep.Matrix
set_option linter.unusedSimpArgs false
set_option linter.unusedVariables false

/- The program's points: the point that bytes stand for. -/
namespace Go.Proofs.Ytphkmaihnbhgoaa
open Go.RowKit Go.Deep
set_option linter.unusedSimpArgs false
set_option linter.unusedVariables false

theorem notand128 (x : Nat) (h : x < 256) : bits .andNot .u8 (x : Int) 128 = ((x % 128 : Nat) : Int) := by
  have g : ∀ q : Fin 256, bits .andNot .u8 ((q.val : Nat) : Int) 128 = ((q.val % 128 : Nat) : Int) := by decide +kernel
  exact g ⟨x, h⟩
theorem and128 (x : Nat) (h : x < 256) : bits .and .u8 (x : Int) 128 = ((128 * (x / 128) : Nat) : Int) := by
  have g : ∀ q : Fin 256, bits .and .u8 ((q.val : Nat) : Int) 128 = ((128 * (q.val / 128) : Nat) : Int) := by decide +kernel
  exact g ⟨x, h⟩
theorem exec_zeroE {w : World} (ρ : Operand → Value) (t : TypeId) : (execOp ρ (mkOp (.build 27 #[]) t)).run Try.prog w = .ok (.value (.agg (arrOf 4 (ewF 0)))) w := by
  have hr := run_build w 27 #[] (arrOf 4 (ewF 0)) builtE0
  simp [execOp, mkOp, hr, Result.andThen]
theorem exec_rowsP1 (ρ : Operand → Value) (x : Operand) (t : TypeId) (w : World) {v1 : Value} {l1 : List UInt8} (h1 : Bs w v1 l1) (hx : ρ x = v1) :
    (execOp ρ (mkOp (.buildSlice 102 1 #[(0, x)]) t)).run Try.prog w = .ok (.value (.slice (some ⟨w.heap.size, 0, none⟩) 1 1)) (w.alloc (.cells #[v1] 22)) := by
  obtain ⟨a1, c1, rfl, _⟩ := h1
  simp only [execOp, mkOp, List.map_toArray, List.map_cons, List.map_nil, hx]
  go_simp
theorem wpList_rows1 {ops : Array Oper} {rest : List Oper} {o : Oper} {a : Act} {w : World} {Q : Exit → Act → World → Prop} (hgd : o.guard = none) (x : Operand) (ho : o.op = .buildSlice 102 1 #[(0, x)]) {v1 : Value} {l1 : List UInt8} (h1 : Bs w v1 l1) (hx : a.eval x = v1)
    (h : ∀ v w', Bss w' v [l1] → Below w.heap.size w w' → wpList Try.prog ops Q rest (a.put o.dst v) w') : wpList Try.prog ops Q (o :: rest) a w := by
  have hr := exec_rowsP1 a.eval x o.type w h1 hx
  exact wpList_plain hgd fun _ hK => by
    unfold Oper.wp
    rw [exec_mkOp, ho, hr]
    exact hK _ _ (h _ _ (Bss.one h1 rfl) ((Below.refl _ _).alloc (Nat.le_refl _) _))
theorem strict_yes (v : Value) (l C : List UInt8) (Y : Nat) (w : World) (h : Bs w v C) (hC : C = cutB l) (hl : l.length = 32) (hY : numL l 32 % top = Y) (hYl : Y < p25) :
    Calls Try.prog 36 #[v] w fun e w' => e = .returned (.tuple #[.agg (arrOf 4 (ewF Y)), .int .i64 0]) ∧ Below w.heap.size w w' := by
  have g := strict_any v C w h
  have e : strictL C = some Y := by rw [hC, strict_cut l hl, hY, if_pos hYl]
  rw [e] at g
  exact g
theorem strict_no (v : Value) (l C : List UInt8) (w : World) (h : Bs w v C) (hC : C = cutB l) (hl : l.length = 32) (hYl : ¬ numL l 32 % top < p25) :
    Calls Try.prog 36 #[v] w fun e w' => e = .returned (.tuple #[.agg (arrOf 4 (ewF 0)), .int .i64 2]) ∧ Below w.heap.size w w' := by
  have g := strict_any v C w h
  have e : strictL C = none := by rw [hC, strict_cut l hl, if_neg hYl]
  rw [e] at g
  exact g
theorem bes_some (Y x : Nat) (w : World) (hY : Y < p25) (hx : decX Y = some x) : Calls Try.prog 37 #[.agg (arrOf 4 (ewF Y))] w fun e w' => e = .returned (.tuple #[.agg (arrOf 4 (ewF x)), .int .i64 0]) ∧ Below w.heap.size w w' := by
  have g := beside_any Y w hY
  rw [hx] at g
  exact g
theorem bes_none (Y : Nat) (w : World) (hY : Y < p25) (hx : decX Y = none) : Calls Try.prog 37 #[.agg (arrOf 4 (ewF Y))] w fun e w' => e = .returned (.tuple #[.agg (arrOf 4 (ewF 0)), .int .i64 7]) ∧ Below w.heap.size w w' := by
  have g := beside_any Y w hY
  rw [hx] at g
  exact g
theorem pick_to (y : Bool) (A C : Nat) (w : World) : Calls Try.prog 39 #[.bool y, .agg (arrOf 4 (ewF A)), .agg (arrOf 4 (ewF C))] w fun e w' => e = .returned (.agg (arrOf 4 (ewF (if y = true then A else C)))) ∧ Below w.heap.size w w' := pick_any y A C w
set_option maxHeartbeats 4000000 in
set_option maxRecDepth 10000 in
theorem qDecode_1 (v0 : Value) (l0 : List UInt8) (w : World) (h0 : Bs w v0 l0) (hl : ¬ l0.length = 32) : Calls Try.prog 10 #[v0] w fun e w' => e = .returned (.tuple #[.agg (arrOf 12 (qF 0 0 0)), .int .i64 12]) ∧ Below w.heap.size w w' := by
  have B00 := Below.refl w.heap.size w
  obtain ⟨ad0, n0, c0, rfl, e0, y0, z0, hB0⟩ := h0.shape
  have q0 : ¬ (n0 : Int) = 32 := by omega
  clear h0 hB0 B00
  have Bw0 := Below.refl w.heap.size w
  have HGS : Hid (∀ wq : World, Below w.heap.size w wq → w.heap.size ≤ wq.heap.size) := Lib.hid fun wq h => h.size
  go_enter Try.func10, Try.ntmps10
  go_wp2_with (first
    | (have hgo := Bw0; clear hgo
       refine wpList_alloc_row rfl 29 rfl 12 (u64f fun _ => 0) zeroQ ?_
       intro b_t2 w1 lk r_t2 kk
       have l_t2 := zrl HGS Bw0 lk
       have Bw1 := zbt HGS Bw0 kk
       clear Bw0 kk lk)
    | (have hgo := Bw1; clear hgo
       refine wpList_build_arr rfl 29 #[] rfl (arrOf 12 (qF 0 0 0)) ?_ ?_
       · simp only [List.map_toArray, List.map_cons, List.map_nil]; exact builtQ0
       have Bw2 := Bw1
       clear Bw1)
    | (have hgo := Bw2; clear hgo
       refine wpList_store_as rfl 29 (.tmp 2) (.tmp 12) rfl 12 (qF 0 0 0) arrQ r_t2 rfl rfl (by omega) (fun j _ => qF_one _ _ _ j) (fun i hi => putN_whole hi) ?_
       intro w4 q gk
       replace r_t2 := q
       have Bw3 := zbg HGS Bw2 gk l_t2
       clear Bw2 gk q))
  exact ret_cell_as_tmp _ rfl arrQ r_t2 rfl rfl (by omega) (fun _ _ => rfl) rfl ⟨rfl, Bw3⟩
set_option maxHeartbeats 4000000 in
set_option maxRecDepth 10000 in
theorem qDecode_2 (v0 : Value) (l0 : List UInt8) (w : World) (h0 : Bs w v0 l0) (hl : l0.length = 32) (hY : ¬ numL l0 32 % top < p25) : Calls Try.prog 10 #[v0] w fun e w' => e = .returned (.tuple #[.agg (arrOf 12 (qF 0 0 0)), .int .i64 12]) ∧ Below w.heap.size w w' := by
  have HYL := Lib.hid hY
  obtain ⟨gb, off, c0, rfl, y0, z0, hgb, hcells⟩ := h0.open_n hl (by decide)
  have HL := Lib.hid hl
  have HF0 := Lib.hid h0
  have f_b0 := h0
  obtain ⟨q, hq⟩ := nat_var ((l0.getD 31 0).toNat)
  have hql : q < 256 := by rw [hq]; exact UInt8.toNat_lt _
  have a1 := notand128 q hql
  obtain ⟨u, hu⟩ := nat_var (q % 128)
  rw [← hu] at a1
  have HUL : Hid (u < 256) := Lib.hid (by omega)
  have HQL := Lib.hid hql
  have HSG : Hid (numL l0 32 / top = q / 128) := Lib.hid (by rw [(numL_cut l0 hl).2, ← hq])
  have HCB : Hid (cutB l0 = l0.set 31 (UInt8.ofNat u)) := Lib.hid (by rw [hu, hq]; rfl)
  have HQ : Hid (∀ h : 31 < l0.length, (l0[31]'h).toNat = q) := Lib.hid fun h => by rw [hq, List.getD_eq_getElem?_getD, List.getElem?_eq_getElem h]; rfl
  have HC31 : Hid (∀ W, Below w.heap.size w W → W.cell? ⟨gb, off + 31, none⟩ = some (.int .u8 (q : Int))) := Lib.hid fun W hW => (bs_cell (h0.below hW (Nat.le_refl _)) 31 (by rw [hl]; decide)).trans (by rw [HQ.out])
  clear hq hql hu hcells h0 hl hY
  have Bw0 := Below.refl w.heap.size w
  have HGS : Hid (∀ wq : World, Below w.heap.size w wq → w.heap.size ≤ wq.heap.size) := Lib.hid fun wq h => h.size
  have HF_b0 := HF0
  go_enter Try.func10, Try.ntmps10
  go_wp2_with (first
    | (have hgo := Bw0; clear hgo
       refine wpList_alloc_row rfl 29 rfl 12 (u64f fun _ => 0) zeroQ ?_
       intro b_t2 w1 lk r_t2 kk
       have l_t2 := zrl HGS Bw0 lk
       have a_b0_t2 := Bs.away f_b0 lk
       replace f_b0 := zfb f_b0 kk
       have Bw1 := zbt HGS Bw0 kk
       clear Bw0 kk lk)
    | (have hgo := Bw1; clear hgo
       refine wpList_rows1 rfl (.tmp 13) rfl f_b0 rfl ?_
       intro v_r14 w3 F_r14 kk
       replace r_t2 := zrb r_t2 kk
       replace f_b0 := zfb f_b0 kk
       have Bw2 := zbt HGS Bw1 kk
       clear Bw1 kk)
    | (have hgo := Bw2; clear hgo
       go_at_call 35
       refine (cat_any _ _ _ F_r14 (by rw [List.flatten_singleton, HL.out]; decide)).mono ?_
       rintro e w4 ⟨v_c, rfl, o_c, kk⟩
       rw [List.flatten_singleton] at o_c
       clear F_r14
       obtain ⟨g, cap, hv, hg, hgs, _, _⟩ := o_c.open_cons (by rw [HL.out]; decide)
       rw [HL.out] at hv
       subst hv
       have n_c : b_t2 ≠ g := Nat.ne_of_lt (Nat.lt_of_lt_of_le (World.rowIs.lt r_t2) hg)
       have HCAP : Hid (32 ≤ cap) := Lib.hid (owns_cap o_c)
       have HGB : Hid (w.heap.size ≤ g) := Lib.hid (Nat.le_trans (HGS.out _ Bw2) hg)
       replace o_c := o_c.lower (HGS.out _ Bw2)
       clear hg hgs
       replace r_t2 := zrb r_t2 kk
       replace f_b0 := zfb f_b0 kk
       have Bw3 := zbt HGS Bw2 kk
       clear Bw2 kk)
    | (have hgo := Bw3; clear hgo
       refine wpList_load_byte rfl (.tmp 17) rfl 31 q o_c HL.out.symm (by rw [HL.out]; decide) rfl (HQ.out _) ?_
       have Bw4 := Bw3
       clear Bw3)
    | (have hgo := Bw4; clear hgo
       refine wpList_store_byte rfl (.tmp 20) (.tmp 19) rfl 31 u o_c HL.out.symm HCAP.out (by rw [HL.out]; decide) rfl rfl HUL.out ?_
       intro w5 o_d gk
       have Bw5 := Bw4.grown gk (HGS.out _ Bw4) (by intro k hk; cases hk; exact HGB.out)
       replace r_t2 := gb_rowIs r_t2 gk n_c
       replace f_b0 := HF_b0.out.below Bw5 (Nat.le_refl _)
       rw [← HCB.out] at o_d
       have f_d := o_d.bs
       clear Bw4 gk o_d o_c)
    | (have hgo := Bw5; clear hgo
       go_at_call 36
       refine (strict_no _ l0 _ _ f_d rfl HL.out HYL.out).mono ?_
       rintro e w7 ⟨rfl, kk⟩
       replace r_t2 := zrb r_t2 kk
       replace f_b0 := zfb f_b0 kk
       replace f_d := zfb f_d kk
       have Bw6 := zbt HGS Bw5 kk
       clear Bw5 kk)
    | (have hgo := Bw6; clear hgo
       refine wpList_alloc_row rfl 27 rfl 4 (u64f fun _ => 0) zeroE ?_
       intro b_t5 w11 lk r_t5 kk
       have n_t2_t5 := zrn r_t2 lk
       have l_t5 := zrl HGS Bw6 lk
       have a_b0_t5 := Bs.away f_b0 lk
       have a_d_t5 := Bs.away f_d lk
       replace r_t2 := zrb r_t2 kk
       replace f_b0 := zfb f_b0 kk
       replace f_d := zfb f_d kk
       have Bw7 := zbt HGS Bw6 kk
       clear Bw6 kk lk)
    | (have hgo := Bw7; clear hgo
       refine wpList_store_as rfl 27 (.tmp 5) (.tmp 24) rfl 4 (ewF 0) arrE r_t5 rfl rfl (by omega) (fun _ _ => rfl) (fun i hi => putN_whole hi) ?_
       intro w12 q gk
       replace r_t2 := gb_rowIs r_t2 gk n_t2_t5
       replace r_t5 := q
       have Bw8 := zbg HGS Bw7 gk l_t5
       replace f_b0 := gb_bs f_b0 gk a_b0_t5
       replace f_d := gb_bs f_d gk a_d_t5
       clear Bw7 gk q)
    | (have hgo := Bw8; clear hgo
       refine wpList_build_arr rfl 29 #[] rfl (arrOf 12 (qF 0 0 0)) ?_ ?_
       · simp only [List.map_toArray, List.map_cons, List.map_nil]; exact builtQ0
       have Bw9 := Bw8
       clear Bw8)
    | (have hgo := Bw9; clear hgo
       refine wpList_store_as rfl 29 (.tmp 2) (.tmp 28) rfl 12 (qF 0 0 0) arrQ r_t2 rfl rfl (by omega) (fun j _ => qF_one _ _ _ j) (fun i hi => putN_whole hi) ?_
       intro w15 q gk
       replace r_t5 := gb_rowIs r_t5 gk (Ne.symm n_t2_t5)
       replace r_t2 := q
       have Bw10 := zbg HGS Bw9 gk l_t2
       replace f_b0 := gb_bs f_b0 gk a_b0_t2
       clear f_d
       clear Bw9 gk q))
  exact ret_cell_as_tmp _ rfl arrQ r_t2 rfl rfl (by omega) (fun _ _ => rfl) rfl ⟨rfl, Bw10⟩
set_option maxHeartbeats 4000000 in
set_option maxRecDepth 10000 in
theorem qDecode_3 (v0 : Value) (l0 : List UInt8) (w : World) (h0 : Bs w v0 l0) (hl : l0.length = 32) (hY : numL l0 32 % top < p25) (hx : decX (numL l0 32 % top) = none) : Calls Try.prog 10 #[v0] w fun e w' => e = .returned (.tuple #[.agg (arrOf 12 (qF 0 0 0)), .int .i64 12]) ∧ Below w.heap.size w w' := by
  have HYL := Lib.hid hY
  obtain ⟨gb, off, c0, rfl, y0, z0, hgb, hcells⟩ := h0.open_n hl (by decide)
  have HL := Lib.hid hl
  have HF0 := Lib.hid h0
  have f_b0 := h0
  obtain ⟨q, hq⟩ := nat_var ((l0.getD 31 0).toNat)
  have hql : q < 256 := by rw [hq]; exact UInt8.toNat_lt _
  have a1 := notand128 q hql
  obtain ⟨u, hu⟩ := nat_var (q % 128)
  rw [← hu] at a1
  have HUL : Hid (u < 256) := Lib.hid (by omega)
  have HQL := Lib.hid hql
  have HSG : Hid (numL l0 32 / top = q / 128) := Lib.hid (by rw [(numL_cut l0 hl).2, ← hq])
  have HCB : Hid (cutB l0 = l0.set 31 (UInt8.ofNat u)) := Lib.hid (by rw [hu, hq]; rfl)
  have HQ : Hid (∀ h : 31 < l0.length, (l0[31]'h).toNat = q) := Lib.hid fun h => by rw [hq, List.getD_eq_getElem?_getD, List.getElem?_eq_getElem h]; rfl
  have HC31 : Hid (∀ W, Below w.heap.size w W → W.cell? ⟨gb, off + 31, none⟩ = some (.int .u8 (q : Int))) := Lib.hid fun W hW => (bs_cell (h0.below hW (Nat.le_refl _)) 31 (by rw [hl]; decide)).trans (by rw [HQ.out])
  obtain ⟨Y, hYv⟩ := nat_var (numL l0 32 % top)
  have HYv : Hid (numL l0 32 % top = Y) := Lib.hid hYv.symm
  have HY : Hid (Y < p25) := Lib.hid (by rw [hYv]; exact HYL.out)
  rw [← hYv] at hx
  have HRT := Lib.hid fun w => bes_none Y w HY.out hx
  obtain ⟨sg, hsg⟩ := nat_var (q / 128)
  have hsg2 : sg < 2 := by rw [hsg]; exact Nat.div_lt_of_lt_mul hql
  have a3 := and128 q hql
  rw [← hsg] at a3
  clear hsg
  rcases (show sg = 0 ∨ sg = 1 by omega) with rfl | rfl
  · have a2 : bits .and .u8 (q : Int) 128 = 0 := a3
    clear a3 hsg2 hx hYv
    clear hq hql hu hcells h0 hl hY
    have Bw0 := Below.refl w.heap.size w
    have HGS : Hid (∀ wq : World, Below w.heap.size w wq → w.heap.size ≤ wq.heap.size) := Lib.hid fun wq h => h.size
    have HF_b0 := HF0
    go_enter Try.func10, Try.ntmps10
    go_wp2_with (first
      | (have hgo := Bw0; clear hgo
         refine wpList_alloc_row rfl 29 rfl 12 (u64f fun _ => 0) zeroQ ?_
         intro b_t2 w1 lk r_t2 kk
         have l_t2 := zrl HGS Bw0 lk
         have a_b0_t2 := Bs.away f_b0 lk
         replace f_b0 := zfb f_b0 kk
         have Bw1 := zbt HGS Bw0 kk
         clear Bw0 kk lk)
      | (have hgo := Bw1; clear hgo
         refine wpList_rows1 rfl (.tmp 13) rfl f_b0 rfl ?_
         intro v_r14 w3 F_r14 kk
         replace r_t2 := zrb r_t2 kk
         replace f_b0 := zfb f_b0 kk
         have Bw2 := zbt HGS Bw1 kk
         clear Bw1 kk)
      | (have hgo := Bw2; clear hgo
         go_at_call 35
         refine (cat_any _ _ _ F_r14 (by rw [List.flatten_singleton, HL.out]; decide)).mono ?_
         rintro e w4 ⟨v_c, rfl, o_c, kk⟩
         rw [List.flatten_singleton] at o_c
         clear F_r14
         obtain ⟨g, cap, hv, hg, hgs, _, _⟩ := o_c.open_cons (by rw [HL.out]; decide)
         rw [HL.out] at hv
         subst hv
         have n_c : b_t2 ≠ g := Nat.ne_of_lt (Nat.lt_of_lt_of_le (World.rowIs.lt r_t2) hg)
         have HCAP : Hid (32 ≤ cap) := Lib.hid (owns_cap o_c)
         have HGB : Hid (w.heap.size ≤ g) := Lib.hid (Nat.le_trans (HGS.out _ Bw2) hg)
         replace o_c := o_c.lower (HGS.out _ Bw2)
         clear hg hgs
         replace r_t2 := zrb r_t2 kk
         replace f_b0 := zfb f_b0 kk
         have Bw3 := zbt HGS Bw2 kk
         clear Bw2 kk)
      | (have hgo := Bw3; clear hgo
         refine wpList_load_byte rfl (.tmp 17) rfl 31 q o_c HL.out.symm (by rw [HL.out]; decide) rfl (HQ.out _) ?_
         have Bw4 := Bw3
         clear Bw3)
      | (have hgo := Bw4; clear hgo
         refine wpList_store_byte rfl (.tmp 20) (.tmp 19) rfl 31 u o_c HL.out.symm HCAP.out (by rw [HL.out]; decide) rfl rfl HUL.out ?_
         intro w5 o_d gk
         have Bw5 := Bw4.grown gk (HGS.out _ Bw4) (by intro k hk; cases hk; exact HGB.out)
         replace r_t2 := gb_rowIs r_t2 gk n_c
         replace f_b0 := HF_b0.out.below Bw5 (Nat.le_refl _)
         rw [← HCB.out] at o_d
         have f_d := o_d.bs
         clear Bw4 gk o_d o_c)
      | (have hgo := Bw5; clear hgo
         go_at_call 36
         refine (strict_yes _ l0 _ Y _ f_d rfl HL.out HYv.out HY.out).mono ?_
         rintro e w7 ⟨rfl, kk⟩
         replace r_t2 := zrb r_t2 kk
         replace f_b0 := zfb f_b0 kk
         replace f_d := zfb f_d kk
         have Bw6 := zbt HGS Bw5 kk
         clear Bw5 kk)
      | (have hgo := Bw6; clear hgo
         refine wpList_alloc_row rfl 27 rfl 4 (u64f fun _ => 0) zeroE ?_
         intro b_t5 w11 lk r_t5 kk
         have n_t2_t5 := zrn r_t2 lk
         have l_t5 := zrl HGS Bw6 lk
         have a_b0_t5 := Bs.away f_b0 lk
         have a_d_t5 := Bs.away f_d lk
         replace r_t2 := zrb r_t2 kk
         replace f_b0 := zfb f_b0 kk
         replace f_d := zfb f_d kk
         have Bw7 := zbt HGS Bw6 kk
         clear Bw6 kk lk)
      | (have hgo := Bw7; clear hgo
         refine wpList_store_as rfl 27 (.tmp 5) (.tmp 24) rfl 4 (ewF Y) arrE r_t5 rfl rfl (by omega) (fun _ _ => rfl) (fun i hi => putN_whole hi) ?_
         intro w12 q gk
         replace r_t2 := gb_rowIs r_t2 gk n_t2_t5
         replace r_t5 := q
         have Bw8 := zbg HGS Bw7 gk l_t5
         replace f_b0 := gb_bs f_b0 gk a_b0_t5
         replace f_d := gb_bs f_d gk a_d_t5
         clear Bw7 gk q)
      | (have hgo := Bw8; clear hgo
         refine wpList_load_cat rfl (.tmp 30) rfl (HC31.out _ Bw8) rfl ?_
         have Bw9 := Bw8
         clear Bw8)
      | (have hgo := Bw9; clear hgo
         refine wpList_load_as rfl 27 (.tmp 5) rfl 4 (ewF Y) arrE r_t5 rfl (by omega) (fun i hi => by rw [Nat.zero_add]) ?_
         have Bw10 := Bw9
         clear Bw9)
      | (have hgo := Bw10; clear hgo
         go_at_call 37
         refine (HRT.out _).mono ?_
         rintro e w21 ⟨rfl, kk⟩
         replace r_t2 := zrb r_t2 kk
         replace r_t5 := zrb r_t5 kk
         replace f_b0 := zfb f_b0 kk
         replace f_d := zfb f_d kk
         have Bw11 := zbt HGS Bw10 kk
         clear Bw10 kk)
      | (have hgo := Bw11; clear hgo
         refine wpList_alloc_row rfl 27 rfl 4 (u64f fun _ => 0) zeroE ?_
         intro b_t8 w25 lk r_t8 kk
         have n_t2_t8 := zrn r_t2 lk
         have n_t5_t8 := zrn r_t5 lk
         have l_t8 := zrl HGS Bw11 lk
         have a_b0_t8 := Bs.away f_b0 lk
         have a_d_t8 := Bs.away f_d lk
         replace r_t2 := zrb r_t2 kk
         replace r_t5 := zrb r_t5 kk
         replace f_b0 := zfb f_b0 kk
         replace f_d := zfb f_d kk
         have Bw12 := zbt HGS Bw11 kk
         clear Bw11 kk lk)
      | (have hgo := Bw12; clear hgo
         refine wpList_store_as rfl 27 (.tmp 8) (.tmp 37) rfl 4 (ewF 0) arrE r_t8 rfl rfl (by omega) (fun _ _ => rfl) (fun i hi => putN_whole hi) ?_
         intro w26 q gk
         replace r_t2 := gb_rowIs r_t2 gk n_t2_t8
         replace r_t5 := gb_rowIs r_t5 gk n_t5_t8
         replace r_t8 := q
         have Bw13 := zbg HGS Bw12 gk l_t8
         replace f_b0 := gb_bs f_b0 gk a_b0_t8
         replace f_d := gb_bs f_d gk a_d_t8
         clear Bw12 gk q)
      | (have hgo := Bw13; clear hgo
         refine wpList_build_arr rfl 29 #[] rfl (arrOf 12 (qF 0 0 0)) ?_ ?_
         · simp only [List.map_toArray, List.map_cons, List.map_nil]; exact builtQ0
         have Bw14 := Bw13
         clear Bw13)
      | (have hgo := Bw14; clear hgo
         refine wpList_store_as rfl 29 (.tmp 2) (.tmp 49) rfl 12 (qF 0 0 0) arrQ r_t2 rfl rfl (by omega) (fun j _ => qF_one _ _ _ j) (fun i hi => putN_whole hi) ?_
         intro w39 q gk
         replace r_t5 := gb_rowIs r_t5 gk (Ne.symm n_t2_t5)
         replace r_t8 := gb_rowIs r_t8 gk (Ne.symm n_t2_t8)
         replace r_t2 := q
         have Bw15 := zbg HGS Bw14 gk l_t2
         replace f_b0 := gb_bs f_b0 gk a_b0_t2
         clear f_d
         clear Bw14 gk q))
    exact ret_cell_as_tmp _ rfl arrQ r_t2 rfl rfl (by omega) (fun _ _ => rfl) rfl ⟨rfl, Bw15⟩
  · have a2 : bits .and .u8 (q : Int) 128 = 128 := a3
    clear a3 hsg2 hx hYv
    clear hq hql hu hcells h0 hl hY
    have Bw0 := Below.refl w.heap.size w
    have HGS : Hid (∀ wq : World, Below w.heap.size w wq → w.heap.size ≤ wq.heap.size) := Lib.hid fun wq h => h.size
    have HF_b0 := HF0
    go_enter Try.func10, Try.ntmps10
    go_wp2_with (first
      | (have hgo := Bw0; clear hgo
         refine wpList_alloc_row rfl 29 rfl 12 (u64f fun _ => 0) zeroQ ?_
         intro b_t2 w1 lk r_t2 kk
         have l_t2 := zrl HGS Bw0 lk
         have a_b0_t2 := Bs.away f_b0 lk
         replace f_b0 := zfb f_b0 kk
         have Bw1 := zbt HGS Bw0 kk
         clear Bw0 kk lk)
      | (have hgo := Bw1; clear hgo
         refine wpList_rows1 rfl (.tmp 13) rfl f_b0 rfl ?_
         intro v_r14 w3 F_r14 kk
         replace r_t2 := zrb r_t2 kk
         replace f_b0 := zfb f_b0 kk
         have Bw2 := zbt HGS Bw1 kk
         clear Bw1 kk)
      | (have hgo := Bw2; clear hgo
         go_at_call 35
         refine (cat_any _ _ _ F_r14 (by rw [List.flatten_singleton, HL.out]; decide)).mono ?_
         rintro e w4 ⟨v_c, rfl, o_c, kk⟩
         rw [List.flatten_singleton] at o_c
         clear F_r14
         obtain ⟨g, cap, hv, hg, hgs, _, _⟩ := o_c.open_cons (by rw [HL.out]; decide)
         rw [HL.out] at hv
         subst hv
         have n_c : b_t2 ≠ g := Nat.ne_of_lt (Nat.lt_of_lt_of_le (World.rowIs.lt r_t2) hg)
         have HCAP : Hid (32 ≤ cap) := Lib.hid (owns_cap o_c)
         have HGB : Hid (w.heap.size ≤ g) := Lib.hid (Nat.le_trans (HGS.out _ Bw2) hg)
         replace o_c := o_c.lower (HGS.out _ Bw2)
         clear hg hgs
         replace r_t2 := zrb r_t2 kk
         replace f_b0 := zfb f_b0 kk
         have Bw3 := zbt HGS Bw2 kk
         clear Bw2 kk)
      | (have hgo := Bw3; clear hgo
         refine wpList_load_byte rfl (.tmp 17) rfl 31 q o_c HL.out.symm (by rw [HL.out]; decide) rfl (HQ.out _) ?_
         have Bw4 := Bw3
         clear Bw3)
      | (have hgo := Bw4; clear hgo
         refine wpList_store_byte rfl (.tmp 20) (.tmp 19) rfl 31 u o_c HL.out.symm HCAP.out (by rw [HL.out]; decide) rfl rfl HUL.out ?_
         intro w5 o_d gk
         have Bw5 := Bw4.grown gk (HGS.out _ Bw4) (by intro k hk; cases hk; exact HGB.out)
         replace r_t2 := gb_rowIs r_t2 gk n_c
         replace f_b0 := HF_b0.out.below Bw5 (Nat.le_refl _)
         rw [← HCB.out] at o_d
         have f_d := o_d.bs
         clear Bw4 gk o_d o_c)
      | (have hgo := Bw5; clear hgo
         go_at_call 36
         refine (strict_yes _ l0 _ Y _ f_d rfl HL.out HYv.out HY.out).mono ?_
         rintro e w7 ⟨rfl, kk⟩
         replace r_t2 := zrb r_t2 kk
         replace f_b0 := zfb f_b0 kk
         replace f_d := zfb f_d kk
         have Bw6 := zbt HGS Bw5 kk
         clear Bw5 kk)
      | (have hgo := Bw6; clear hgo
         refine wpList_alloc_row rfl 27 rfl 4 (u64f fun _ => 0) zeroE ?_
         intro b_t5 w11 lk r_t5 kk
         have n_t2_t5 := zrn r_t2 lk
         have l_t5 := zrl HGS Bw6 lk
         have a_b0_t5 := Bs.away f_b0 lk
         have a_d_t5 := Bs.away f_d lk
         replace r_t2 := zrb r_t2 kk
         replace f_b0 := zfb f_b0 kk
         replace f_d := zfb f_d kk
         have Bw7 := zbt HGS Bw6 kk
         clear Bw6 kk lk)
      | (have hgo := Bw7; clear hgo
         refine wpList_store_as rfl 27 (.tmp 5) (.tmp 24) rfl 4 (ewF Y) arrE r_t5 rfl rfl (by omega) (fun _ _ => rfl) (fun i hi => putN_whole hi) ?_
         intro w12 q gk
         replace r_t2 := gb_rowIs r_t2 gk n_t2_t5
         replace r_t5 := q
         have Bw8 := zbg HGS Bw7 gk l_t5
         replace f_b0 := gb_bs f_b0 gk a_b0_t5
         replace f_d := gb_bs f_d gk a_d_t5
         clear Bw7 gk q)
      | (have hgo := Bw8; clear hgo
         refine wpList_load_cat rfl (.tmp 30) rfl (HC31.out _ Bw8) rfl ?_
         have Bw9 := Bw8
         clear Bw8)
      | (have hgo := Bw9; clear hgo
         refine wpList_load_as rfl 27 (.tmp 5) rfl 4 (ewF Y) arrE r_t5 rfl (by omega) (fun i hi => by rw [Nat.zero_add]) ?_
         have Bw10 := Bw9
         clear Bw9)
      | (have hgo := Bw10; clear hgo
         go_at_call 37
         refine (HRT.out _).mono ?_
         rintro e w21 ⟨rfl, kk⟩
         replace r_t2 := zrb r_t2 kk
         replace r_t5 := zrb r_t5 kk
         replace f_b0 := zfb f_b0 kk
         replace f_d := zfb f_d kk
         have Bw11 := zbt HGS Bw10 kk
         clear Bw10 kk)
      | (have hgo := Bw11; clear hgo
         refine wpList_alloc_row rfl 27 rfl 4 (u64f fun _ => 0) zeroE ?_
         intro b_t8 w25 lk r_t8 kk
         have n_t2_t8 := zrn r_t2 lk
         have n_t5_t8 := zrn r_t5 lk
         have l_t8 := zrl HGS Bw11 lk
         have a_b0_t8 := Bs.away f_b0 lk
         have a_d_t8 := Bs.away f_d lk
         replace r_t2 := zrb r_t2 kk
         replace r_t5 := zrb r_t5 kk
         replace f_b0 := zfb f_b0 kk
         replace f_d := zfb f_d kk
         have Bw12 := zbt HGS Bw11 kk
         clear Bw11 kk lk)
      | (have hgo := Bw12; clear hgo
         refine wpList_store_as rfl 27 (.tmp 8) (.tmp 37) rfl 4 (ewF 0) arrE r_t8 rfl rfl (by omega) (fun _ _ => rfl) (fun i hi => putN_whole hi) ?_
         intro w26 q gk
         replace r_t2 := gb_rowIs r_t2 gk n_t2_t8
         replace r_t5 := gb_rowIs r_t5 gk n_t5_t8
         replace r_t8 := q
         have Bw13 := zbg HGS Bw12 gk l_t8
         replace f_b0 := gb_bs f_b0 gk a_b0_t8
         replace f_d := gb_bs f_d gk a_d_t8
         clear Bw12 gk q)
      | (have hgo := Bw13; clear hgo
         refine wpList_build_arr rfl 29 #[] rfl (arrOf 12 (qF 0 0 0)) ?_ ?_
         · simp only [List.map_toArray, List.map_cons, List.map_nil]; exact builtQ0
         have Bw14 := Bw13
         clear Bw13)
      | (have hgo := Bw14; clear hgo
         refine wpList_store_as rfl 29 (.tmp 2) (.tmp 49) rfl 12 (qF 0 0 0) arrQ r_t2 rfl rfl (by omega) (fun j _ => qF_one _ _ _ j) (fun i hi => putN_whole hi) ?_
         intro w39 q gk
         replace r_t5 := gb_rowIs r_t5 gk (Ne.symm n_t2_t5)
         replace r_t8 := gb_rowIs r_t8 gk (Ne.symm n_t2_t8)
         replace r_t2 := q
         have Bw15 := zbg HGS Bw14 gk l_t2
         replace f_b0 := gb_bs f_b0 gk a_b0_t2
         clear f_d
         clear Bw14 gk q))
    exact ret_cell_as_tmp _ rfl arrQ r_t2 rfl rfl (by omega) (fun _ _ => rfl) rfl ⟨rfl, Bw15⟩
set_option maxHeartbeats 4000000 in
set_option maxRecDepth 10000 in
theorem qDecode_4 (v0 : Value) (l0 : List UInt8) (w : World) (h0 : Bs w v0 l0) (hl : l0.length = 32) (hY : numL l0 32 % top < p25) (x : Nat) (hx : decX (numL l0 32 % top) = some x) (ho : numL l0 32 / top = 1) (hx0 : x = 0) : Calls Try.prog 10 #[v0] w fun e w' => e = .returned (.tuple #[.agg (arrOf 12 (qF 0 0 0)), .int .i64 12]) ∧ Below w.heap.size w w' := by
  have HYL := Lib.hid hY
  obtain ⟨gb, off, c0, rfl, y0, z0, hgb, hcells⟩ := h0.open_n hl (by decide)
  have HL := Lib.hid hl
  have HF0 := Lib.hid h0
  have f_b0 := h0
  obtain ⟨q, hq⟩ := nat_var ((l0.getD 31 0).toNat)
  have hql : q < 256 := by rw [hq]; exact UInt8.toNat_lt _
  have a1 := notand128 q hql
  obtain ⟨u, hu⟩ := nat_var (q % 128)
  rw [← hu] at a1
  have HUL : Hid (u < 256) := Lib.hid (by omega)
  have HQL := Lib.hid hql
  have HSG : Hid (numL l0 32 / top = q / 128) := Lib.hid (by rw [(numL_cut l0 hl).2, ← hq])
  have HCB : Hid (cutB l0 = l0.set 31 (UInt8.ofNat u)) := Lib.hid (by rw [hu, hq]; rfl)
  have HQ : Hid (∀ h : 31 < l0.length, (l0[31]'h).toNat = q) := Lib.hid fun h => by rw [hq, List.getD_eq_getElem?_getD, List.getElem?_eq_getElem h]; rfl
  have HC31 : Hid (∀ W, Below w.heap.size w W → W.cell? ⟨gb, off + 31, none⟩ = some (.int .u8 (q : Int))) := Lib.hid fun W hW => (bs_cell (h0.below hW (Nat.le_refl _)) 31 (by rw [hl]; decide)).trans (by rw [HQ.out])
  obtain ⟨Y, hYv⟩ := nat_var (numL l0 32 % top)
  have HYv : Hid (numL l0 32 % top = Y) := Lib.hid hYv.symm
  have HY : Hid (Y < p25) := Lib.hid (by rw [hYv]; exact HYL.out)
  rw [← hYv] at hx
  have HRT := Lib.hid fun w => bes_some Y x w HY.out hx
  have Hx : Hid (x < p25) := Lib.hid (decX_some HY.out hx).1.1
  have a2 : bits .and .u8 (q : Int) 128 = 128 := by have h := and128 q hql; rw [← HSG.out, ho] at h; exact h
  have HX0 := Lib.hid (decide_eq_true hx0)
  clear hx0
  clear ho
  clear hx hYv
  clear hq hql hu hcells h0 hl hY
  have Bw0 := Below.refl w.heap.size w
  have HGS : Hid (∀ wq : World, Below w.heap.size w wq → w.heap.size ≤ wq.heap.size) := Lib.hid fun wq h => h.size
  have HF_b0 := HF0
  go_enter Try.func10, Try.ntmps10
  go_wp2_with (first
    | (have hgo := Bw0; clear hgo
       refine wpList_alloc_row rfl 29 rfl 12 (u64f fun _ => 0) zeroQ ?_
       intro b_t2 w1 lk r_t2 kk
       have l_t2 := zrl HGS Bw0 lk
       have a_b0_t2 := Bs.away f_b0 lk
       replace f_b0 := zfb f_b0 kk
       have Bw1 := zbt HGS Bw0 kk
       clear Bw0 kk lk)
    | (have hgo := Bw1; clear hgo
       refine wpList_rows1 rfl (.tmp 13) rfl f_b0 rfl ?_
       intro v_r14 w3 F_r14 kk
       replace r_t2 := zrb r_t2 kk
       replace f_b0 := zfb f_b0 kk
       have Bw2 := zbt HGS Bw1 kk
       clear Bw1 kk)
    | (have hgo := Bw2; clear hgo
       go_at_call 35
       refine (cat_any _ _ _ F_r14 (by rw [List.flatten_singleton, HL.out]; decide)).mono ?_
       rintro e w4 ⟨v_c, rfl, o_c, kk⟩
       rw [List.flatten_singleton] at o_c
       clear F_r14
       obtain ⟨g, cap, hv, hg, hgs, _, _⟩ := o_c.open_cons (by rw [HL.out]; decide)
       rw [HL.out] at hv
       subst hv
       have n_c : b_t2 ≠ g := Nat.ne_of_lt (Nat.lt_of_lt_of_le (World.rowIs.lt r_t2) hg)
       have HCAP : Hid (32 ≤ cap) := Lib.hid (owns_cap o_c)
       have HGB : Hid (w.heap.size ≤ g) := Lib.hid (Nat.le_trans (HGS.out _ Bw2) hg)
       replace o_c := o_c.lower (HGS.out _ Bw2)
       clear hg hgs
       replace r_t2 := zrb r_t2 kk
       replace f_b0 := zfb f_b0 kk
       have Bw3 := zbt HGS Bw2 kk
       clear Bw2 kk)
    | (have hgo := Bw3; clear hgo
       refine wpList_load_byte rfl (.tmp 17) rfl 31 q o_c HL.out.symm (by rw [HL.out]; decide) rfl (HQ.out _) ?_
       have Bw4 := Bw3
       clear Bw3)
    | (have hgo := Bw4; clear hgo
       refine wpList_store_byte rfl (.tmp 20) (.tmp 19) rfl 31 u o_c HL.out.symm HCAP.out (by rw [HL.out]; decide) rfl rfl HUL.out ?_
       intro w5 o_d gk
       have Bw5 := Bw4.grown gk (HGS.out _ Bw4) (by intro k hk; cases hk; exact HGB.out)
       replace r_t2 := gb_rowIs r_t2 gk n_c
       replace f_b0 := HF_b0.out.below Bw5 (Nat.le_refl _)
       rw [← HCB.out] at o_d
       have f_d := o_d.bs
       clear Bw4 gk o_d o_c)
    | (have hgo := Bw5; clear hgo
       go_at_call 36
       refine (strict_yes _ l0 _ Y _ f_d rfl HL.out HYv.out HY.out).mono ?_
       rintro e w7 ⟨rfl, kk⟩
       replace r_t2 := zrb r_t2 kk
       replace f_b0 := zfb f_b0 kk
       replace f_d := zfb f_d kk
       have Bw6 := zbt HGS Bw5 kk
       clear Bw5 kk)
    | (have hgo := Bw6; clear hgo
       refine wpList_alloc_row rfl 27 rfl 4 (u64f fun _ => 0) zeroE ?_
       intro b_t5 w11 lk r_t5 kk
       have n_t2_t5 := zrn r_t2 lk
       have l_t5 := zrl HGS Bw6 lk
       have a_b0_t5 := Bs.away f_b0 lk
       have a_d_t5 := Bs.away f_d lk
       replace r_t2 := zrb r_t2 kk
       replace f_b0 := zfb f_b0 kk
       replace f_d := zfb f_d kk
       have Bw7 := zbt HGS Bw6 kk
       clear Bw6 kk lk)
    | (have hgo := Bw7; clear hgo
       refine wpList_store_as rfl 27 (.tmp 5) (.tmp 24) rfl 4 (ewF Y) arrE r_t5 rfl rfl (by omega) (fun _ _ => rfl) (fun i hi => putN_whole hi) ?_
       intro w12 q gk
       replace r_t2 := gb_rowIs r_t2 gk n_t2_t5
       replace r_t5 := q
       have Bw8 := zbg HGS Bw7 gk l_t5
       replace f_b0 := gb_bs f_b0 gk a_b0_t5
       replace f_d := gb_bs f_d gk a_d_t5
       clear Bw7 gk q)
    | (have hgo := Bw8; clear hgo
       refine wpList_load_cat rfl (.tmp 30) rfl (HC31.out _ Bw8) rfl ?_
       have Bw9 := Bw8
       clear Bw8)
    | (have hgo := Bw9; clear hgo
       refine wpList_load_as rfl 27 (.tmp 5) rfl 4 (ewF Y) arrE r_t5 rfl (by omega) (fun i hi => by rw [Nat.zero_add]) ?_
       have Bw10 := Bw9
       clear Bw9)
    | (have hgo := Bw10; clear hgo
       go_at_call 37
       refine (HRT.out _).mono ?_
       rintro e w21 ⟨rfl, kk⟩
       replace r_t2 := zrb r_t2 kk
       replace r_t5 := zrb r_t5 kk
       replace f_b0 := zfb f_b0 kk
       replace f_d := zfb f_d kk
       have Bw11 := zbt HGS Bw10 kk
       clear Bw10 kk)
    | (have hgo := Bw11; clear hgo
       refine wpList_alloc_row rfl 27 rfl 4 (u64f fun _ => 0) zeroE ?_
       intro b_t8 w25 lk r_t8 kk
       have n_t2_t8 := zrn r_t2 lk
       have n_t5_t8 := zrn r_t5 lk
       have l_t8 := zrl HGS Bw11 lk
       have a_b0_t8 := Bs.away f_b0 lk
       have a_d_t8 := Bs.away f_d lk
       replace r_t2 := zrb r_t2 kk
       replace r_t5 := zrb r_t5 kk
       replace f_b0 := zfb f_b0 kk
       replace f_d := zfb f_d kk
       have Bw12 := zbt HGS Bw11 kk
       clear Bw11 kk lk)
    | (have hgo := Bw12; clear hgo
       refine wpList_store_as rfl 27 (.tmp 8) (.tmp 37) rfl 4 (ewF x) arrE r_t8 rfl rfl (by omega) (fun _ _ => rfl) (fun i hi => putN_whole hi) ?_
       intro w26 q gk
       replace r_t2 := gb_rowIs r_t2 gk n_t2_t8
       replace r_t5 := gb_rowIs r_t5 gk n_t5_t8
       replace r_t8 := q
       have Bw13 := zbg HGS Bw12 gk l_t8
       replace f_b0 := gb_bs f_b0 gk a_b0_t8
       replace f_d := gb_bs f_d gk a_d_t8
       clear Bw12 gk q)
    | (have hgo := Bw13; clear hgo
       refine wpList_load_asg rfl 27 (.tmp 8) rfl 4 (ewF x) arrE r_t8 rfl (by omega) (fun i hi => by rw [Nat.zero_add]) ?_
       have Bw14 := Bw13
       clear Bw13)
    | (have hgo := Bw14; clear hgo
       refine wpList_value_given rfl (.agg (arrOf 4 (ewF 0))) (by rw [exec_mkOp]; exact exec_zeroE _ _) ?_
       have Bw15 := Bw14
       clear Bw14)
    | (have hgo := Bw15; clear hgo
       go_at_call 38
       refine (sameB_any x 0 true _ Hx.out p25_pos HX0.out).mono ?_
       rintro e w35 ⟨rfl, kk⟩
       replace r_t2 := zrb r_t2 kk
       replace r_t5 := zrb r_t5 kk
       replace r_t8 := zrb r_t8 kk
       replace f_b0 := zfb f_b0 kk
       replace f_d := zfb f_d kk
       have Bw16 := zbt HGS Bw15 kk
       clear Bw15 kk)
    | (have hgo := Bw16; clear hgo
       refine wpList_build_arr rfl 29 #[] rfl (arrOf 12 (qF 0 0 0)) ?_ ?_
       · simp only [List.map_toArray, List.map_cons, List.map_nil]; exact builtQ0
       have Bw17 := Bw16
       clear Bw16)
    | (have hgo := Bw17; clear hgo
       refine wpList_store_as rfl 29 (.tmp 2) (.tmp 49) rfl 12 (qF 0 0 0) arrQ r_t2 rfl rfl (by omega) (fun j _ => qF_one _ _ _ j) (fun i hi => putN_whole hi) ?_
       intro w39 q gk
       replace r_t5 := gb_rowIs r_t5 gk (Ne.symm n_t2_t5)
       replace r_t8 := gb_rowIs r_t8 gk (Ne.symm n_t2_t8)
       replace r_t2 := q
       have Bw18 := zbg HGS Bw17 gk l_t2
       replace f_b0 := gb_bs f_b0 gk a_b0_t2
       clear f_d
       clear Bw17 gk q))
  exact ret_cell_as_tmp _ rfl arrQ r_t2 rfl rfl (by omega) (fun _ _ => rfl) rfl ⟨rfl, Bw18⟩
set_option maxHeartbeats 4000000 in
set_option maxRecDepth 10000 in
theorem qDecode_5 (v0 : Value) (l0 : List UInt8) (w : World) (h0 : Bs w v0 l0) (hl : l0.length = 32) (hY : numL l0 32 % top < p25) (x : Nat) (hx : decX (numL l0 32 % top) = some x) (ho : numL l0 32 / top = 0) : Calls Try.prog 10 #[v0] w fun e w' => e = .returned (.tuple #[.agg (arrOf 12 (qF x (numL l0 32 % top) 1)), .int .i64 0]) ∧ Below w.heap.size w w' := by
  have HYL := Lib.hid hY
  obtain ⟨gb, off, c0, rfl, y0, z0, hgb, hcells⟩ := h0.open_n hl (by decide)
  have HL := Lib.hid hl
  have HF0 := Lib.hid h0
  have f_b0 := h0
  obtain ⟨q, hq⟩ := nat_var ((l0.getD 31 0).toNat)
  have hql : q < 256 := by rw [hq]; exact UInt8.toNat_lt _
  have a1 := notand128 q hql
  obtain ⟨u, hu⟩ := nat_var (q % 128)
  rw [← hu] at a1
  have HUL : Hid (u < 256) := Lib.hid (by omega)
  have HQL := Lib.hid hql
  have HSG : Hid (numL l0 32 / top = q / 128) := Lib.hid (by rw [(numL_cut l0 hl).2, ← hq])
  have HCB : Hid (cutB l0 = l0.set 31 (UInt8.ofNat u)) := Lib.hid (by rw [hu, hq]; rfl)
  have HQ : Hid (∀ h : 31 < l0.length, (l0[31]'h).toNat = q) := Lib.hid fun h => by rw [hq, List.getD_eq_getElem?_getD, List.getElem?_eq_getElem h]; rfl
  have HC31 : Hid (∀ W, Below w.heap.size w W → W.cell? ⟨gb, off + 31, none⟩ = some (.int .u8 (q : Int))) := Lib.hid fun W hW => (bs_cell (h0.below hW (Nat.le_refl _)) 31 (by rw [hl]; decide)).trans (by rw [HQ.out])
  obtain ⟨Y, hYv⟩ := nat_var (numL l0 32 % top)
  have HYv : Hid (numL l0 32 % top = Y) := Lib.hid hYv.symm
  have HY : Hid (Y < p25) := Lib.hid (by rw [hYv]; exact HYL.out)
  rw [← hYv] at hx
  have HRT := Lib.hid fun w => bes_some Y x w HY.out hx
  have Hx : Hid (x < p25) := Lib.hid (decX_some HY.out hx).1.1
  have a2 : bits .and .u8 (q : Int) 128 = 0 := by have h := and128 q hql; rw [← HSG.out, ho] at h; exact h
  clear ho
  clear hx hYv
  clear hq hql hu hcells h0 hl hY
  have Bw0 := Below.refl w.heap.size w
  have HGS : Hid (∀ wq : World, Below w.heap.size w wq → w.heap.size ≤ wq.heap.size) := Lib.hid fun wq h => h.size
  have HF_b0 := HF0
  go_enter Try.func10, Try.ntmps10
  go_wp2_with (first
    | (have hgo := Bw0; clear hgo
       refine wpList_alloc_row rfl 29 rfl 12 (u64f fun _ => 0) zeroQ ?_
       intro b_t2 w1 lk r_t2 kk
       have l_t2 := zrl HGS Bw0 lk
       have a_b0_t2 := Bs.away f_b0 lk
       replace f_b0 := zfb f_b0 kk
       have Bw1 := zbt HGS Bw0 kk
       clear Bw0 kk lk)
    | (have hgo := Bw1; clear hgo
       refine wpList_rows1 rfl (.tmp 13) rfl f_b0 rfl ?_
       intro v_r14 w3 F_r14 kk
       replace r_t2 := zrb r_t2 kk
       replace f_b0 := zfb f_b0 kk
       have Bw2 := zbt HGS Bw1 kk
       clear Bw1 kk)
    | (have hgo := Bw2; clear hgo
       go_at_call 35
       refine (cat_any _ _ _ F_r14 (by rw [List.flatten_singleton, HL.out]; decide)).mono ?_
       rintro e w4 ⟨v_c, rfl, o_c, kk⟩
       rw [List.flatten_singleton] at o_c
       clear F_r14
       obtain ⟨g, cap, hv, hg, hgs, _, _⟩ := o_c.open_cons (by rw [HL.out]; decide)
       rw [HL.out] at hv
       subst hv
       have n_c : b_t2 ≠ g := Nat.ne_of_lt (Nat.lt_of_lt_of_le (World.rowIs.lt r_t2) hg)
       have HCAP : Hid (32 ≤ cap) := Lib.hid (owns_cap o_c)
       have HGB : Hid (w.heap.size ≤ g) := Lib.hid (Nat.le_trans (HGS.out _ Bw2) hg)
       replace o_c := o_c.lower (HGS.out _ Bw2)
       clear hg hgs
       replace r_t2 := zrb r_t2 kk
       replace f_b0 := zfb f_b0 kk
       have Bw3 := zbt HGS Bw2 kk
       clear Bw2 kk)
    | (have hgo := Bw3; clear hgo
       refine wpList_load_byte rfl (.tmp 17) rfl 31 q o_c HL.out.symm (by rw [HL.out]; decide) rfl (HQ.out _) ?_
       have Bw4 := Bw3
       clear Bw3)
    | (have hgo := Bw4; clear hgo
       refine wpList_store_byte rfl (.tmp 20) (.tmp 19) rfl 31 u o_c HL.out.symm HCAP.out (by rw [HL.out]; decide) rfl rfl HUL.out ?_
       intro w5 o_d gk
       have Bw5 := Bw4.grown gk (HGS.out _ Bw4) (by intro k hk; cases hk; exact HGB.out)
       replace r_t2 := gb_rowIs r_t2 gk n_c
       replace f_b0 := HF_b0.out.below Bw5 (Nat.le_refl _)
       rw [← HCB.out] at o_d
       have f_d := o_d.bs
       clear Bw4 gk o_d o_c)
    | (have hgo := Bw5; clear hgo
       go_at_call 36
       refine (strict_yes _ l0 _ Y _ f_d rfl HL.out HYv.out HY.out).mono ?_
       rintro e w7 ⟨rfl, kk⟩
       replace r_t2 := zrb r_t2 kk
       replace f_b0 := zfb f_b0 kk
       replace f_d := zfb f_d kk
       have Bw6 := zbt HGS Bw5 kk
       clear Bw5 kk)
    | (have hgo := Bw6; clear hgo
       refine wpList_alloc_row rfl 27 rfl 4 (u64f fun _ => 0) zeroE ?_
       intro b_t5 w11 lk r_t5 kk
       have n_t2_t5 := zrn r_t2 lk
       have l_t5 := zrl HGS Bw6 lk
       have a_b0_t5 := Bs.away f_b0 lk
       have a_d_t5 := Bs.away f_d lk
       replace r_t2 := zrb r_t2 kk
       replace f_b0 := zfb f_b0 kk
       replace f_d := zfb f_d kk
       have Bw7 := zbt HGS Bw6 kk
       clear Bw6 kk lk)
    | (have hgo := Bw7; clear hgo
       refine wpList_store_as rfl 27 (.tmp 5) (.tmp 24) rfl 4 (ewF Y) arrE r_t5 rfl rfl (by omega) (fun _ _ => rfl) (fun i hi => putN_whole hi) ?_
       intro w12 q gk
       replace r_t2 := gb_rowIs r_t2 gk n_t2_t5
       replace r_t5 := q
       have Bw8 := zbg HGS Bw7 gk l_t5
       replace f_b0 := gb_bs f_b0 gk a_b0_t5
       replace f_d := gb_bs f_d gk a_d_t5
       clear Bw7 gk q)
    | (have hgo := Bw8; clear hgo
       refine wpList_load_cat rfl (.tmp 30) rfl (HC31.out _ Bw8) rfl ?_
       have Bw9 := Bw8
       clear Bw8)
    | (have hgo := Bw9; clear hgo
       refine wpList_load_as rfl 27 (.tmp 5) rfl 4 (ewF Y) arrE r_t5 rfl (by omega) (fun i hi => by rw [Nat.zero_add]) ?_
       have Bw10 := Bw9
       clear Bw9)
    | (have hgo := Bw10; clear hgo
       go_at_call 37
       refine (HRT.out _).mono ?_
       rintro e w21 ⟨rfl, kk⟩
       replace r_t2 := zrb r_t2 kk
       replace r_t5 := zrb r_t5 kk
       replace f_b0 := zfb f_b0 kk
       replace f_d := zfb f_d kk
       have Bw11 := zbt HGS Bw10 kk
       clear Bw10 kk)
    | (have hgo := Bw11; clear hgo
       refine wpList_alloc_row rfl 27 rfl 4 (u64f fun _ => 0) zeroE ?_
       intro b_t8 w25 lk r_t8 kk
       have n_t2_t8 := zrn r_t2 lk
       have n_t5_t8 := zrn r_t5 lk
       have l_t8 := zrl HGS Bw11 lk
       have a_b0_t8 := Bs.away f_b0 lk
       have a_d_t8 := Bs.away f_d lk
       replace r_t2 := zrb r_t2 kk
       replace r_t5 := zrb r_t5 kk
       replace f_b0 := zfb f_b0 kk
       replace f_d := zfb f_d kk
       have Bw12 := zbt HGS Bw11 kk
       clear Bw11 kk lk)
    | (have hgo := Bw12; clear hgo
       refine wpList_store_as rfl 27 (.tmp 8) (.tmp 37) rfl 4 (ewF x) arrE r_t8 rfl rfl (by omega) (fun _ _ => rfl) (fun i hi => putN_whole hi) ?_
       intro w26 q gk
       replace r_t2 := gb_rowIs r_t2 gk n_t2_t8
       replace r_t5 := gb_rowIs r_t5 gk n_t5_t8
       replace r_t8 := q
       have Bw13 := zbg HGS Bw12 gk l_t8
       replace f_b0 := gb_bs f_b0 gk a_b0_t8
       replace f_d := gb_bs f_d gk a_d_t8
       clear Bw12 gk q))
  clear f_d f_b0
  go_wp2
  have Bw14 := Bw13.drew
  replace r_t2 := World.rowIs.drew r_t2
  replace r_t5 := World.rowIs.drew r_t5
  replace r_t8 := World.rowIs.drew r_t8
  clear Bw13
  refine zpo [b_t2] (.rd 0 (.rd 1 (.rd 3 (.rd 5 .done)))) #[true, true, false, true, false, true, false, false, false, false] [2, 4, 6, 7, 8, 9] [some 52, some 54, some 56, some 57, none, some 3] [[], [0], [1], [1, 2], [0, 1, 2, 3], [0, 1, 2, 3, 4]] [(0, []), (1, []), (2, [1]), (3, []), (4, [0, 2, 3, 2]), (5, []), (6, [4]), (7, [4, 5, 6]), (8, [7, 6, 0, 1, 2, 3, 4, 5, 6, 7]), (9, [8, 0, 1, 2, 3, 4, 5, 6, 7, 8])] 43 ?_
  refine zmv (.bool false) rfl rfl rfl rfl rfl ?_
  simp only [Act.put, zA, zB, zC]
  refine zld (ewF x) arrE r_t8 (cont1 (Ne.symm n_t2_t8)) (fun i hi => by rw [Nat.zero_add]) rfl rfl rfl rfl rfl (by omega) ?_
  refine zld (ewF x) arrE r_t8 (cont1 (Ne.symm n_t2_t8)) (fun i hi => by rw [Nat.zero_add]) rfl rfl rfl rfl rfl (by omega) ?_
  refine zld (ewF Y) arrE r_t5 (cont1 (Ne.symm n_t2_t5)) (fun i hi => by rw [Nat.zero_add]) rfl rfl rfl rfl rfl (by omega) ?_
  simp only [Act.put, zA, zB, zC]
  refine lintz_leaf ?_
  refine po_start [.val (.agg (arrOf 4 (ewF (oppP x)))), .val (.agg (arrOf 4 (ewF x))), .val (.agg (arrOf 4 (ewF 1))), .val (.agg (arrOf 12 (qF x Y 1))), .nil, .val ((.int .i64 0))] [⟨b_t2, 29, 12, (u64f fun _ => 0), 4, (qF x Y 1)⟩] (fun i hi => by obtain rfl : i = 0 := by { have h9 : i < 1 := hi; omega }; exact r_t2) (fun HWF m gz wa p az hp hm hmp hcl hdn hE hJ hS hO => ?_) (fun gz wa hE hJ => ?_)
  · rcases (show p = 0 ∨ p = 1 ∨ p = 2 ∨ p = 3 ∨ p = 4 ∨ p = 5 by have h9 : p < 6 := hp; omega) with rfl | rfl | rfl | rfl | rfl | rfl
    · have e51 : az.eval (.tmp 51) = .agg (arrOf 4 (ewF x)) := hO 51 rfl
      exact po_k HWF hJ hE (neg_any x _ Hx.out) rfl rfl rfl rfl rfl rfl (ar1 e51)
    · have e50 : az.eval (.tmp 50) = .bool false := hO 50 rfl
      have e53 : az.eval (.tmp 53) = .agg (arrOf 4 (ewF x)) := hO 53 rfl
      exact po_k HWF hJ hE (pick_to false (oppP x) x _) rfl rfl rfl rfl rfl rfl (ar3 e50 (po_e hS hdn hJ 0 52 rfl rfl rfl rfl) e53)
    · exact po_k HWF hJ hE (small_any 1 _ (by decide)) rfl rfl rfl rfl rfl rfl (ar1 rfl)
    · have e54 := po_e hS hdn hJ 1 54 rfl rfl rfl rfl
      have e55 : az.eval (.tmp 55) = .agg (arrOf 4 (ewF Y)) := hO 55 rfl
      have e56 := po_e hS hdn hJ 2 56 rfl rfl rfl rfl
      exact po_p _ HWF hJ hE rfl rfl rfl rfl rfl rfl rfl (exec_build_as _ _ _ (by simp only [List.map_toArray, List.map_cons, List.map_nil, e54, e55, e56]; exact builtQ _ _ _))
    · exact po_storeOld 0 (.tmp 2) (.tmp 57) 29 b_t2 12 _ (by rw [hm]; exact hp) hmp hJ rfl (show 0 < 1 by decide) rfl rfl rfl rfl rfl (World.rowIs.lt r_t2) (by simp) (by kernel_rfl) po_ne1 hE rfl rfl rfl rfl rfl (hO 2 rfl) (po_e hS hdn hJ 3 57 rfl rfl rfl rfl) arrQ (fun j _ => qF_one _ _ _ j)
    · exact po_p _ HWF hJ hE rfl rfl rfl rfl rfl rfl rfl (x_assign rfl)
  · rw [putO_true _ _ _ _ _ rfl]
    simp only [putA, Nat.zero_add, Nat.reduceAdd]
    rw [hJ.tt 0 rfl, hJ.tt 1 rfl, hJ.tt 2 rfl, hJ.tt 3 rfl, hJ.tt 5 rfl]
    simp only [Act.put, zA, zB, zC]
    refine po_end ?_
    replace r_t2 : wa.rowIs b_t2 29 12 (qF x Y 1) := hJ.old 0 (show 0 < 1 by decide) (show 4 < 6 by decide)
    replace r_t5 := Keep.row hE r_t5 (cont1 (Ne.symm n_t2_t5))
    replace r_t8 := Keep.row hE r_t8 (cont1 (Ne.symm n_t2_t8))
    have Bw15 := hE.below Bw14 (HGS.out _ Bw14) (keep_all1 l_t2)
    clear Bw14 hE hJ 
    go_wp2
    exact ret_cell_as_tmp _ rfl arrQ r_t2 rfl rfl (by omega) (fun _ _ => rfl) rfl ⟨by rw [HYv.out]; rfl, Bw15⟩
set_option maxHeartbeats 4000000 in
set_option maxRecDepth 10000 in
theorem qDecode_6 (v0 : Value) (l0 : List UInt8) (w : World) (h0 : Bs w v0 l0) (hl : l0.length = 32) (hY : numL l0 32 % top < p25) (x : Nat) (hx : decX (numL l0 32 % top) = some x) (ho : numL l0 32 / top = 1) (hx0 : x ≠ 0) : Calls Try.prog 10 #[v0] w fun e w' => e = .returned (.tuple #[.agg (arrOf 12 (qF (oppP x) (numL l0 32 % top) 1)), .int .i64 0]) ∧ Below w.heap.size w w' := by
  have HYL := Lib.hid hY
  obtain ⟨gb, off, c0, rfl, y0, z0, hgb, hcells⟩ := h0.open_n hl (by decide)
  have HL := Lib.hid hl
  have HF0 := Lib.hid h0
  have f_b0 := h0
  obtain ⟨q, hq⟩ := nat_var ((l0.getD 31 0).toNat)
  have hql : q < 256 := by rw [hq]; exact UInt8.toNat_lt _
  have a1 := notand128 q hql
  obtain ⟨u, hu⟩ := nat_var (q % 128)
  rw [← hu] at a1
  have HUL : Hid (u < 256) := Lib.hid (by omega)
  have HQL := Lib.hid hql
  have HSG : Hid (numL l0 32 / top = q / 128) := Lib.hid (by rw [(numL_cut l0 hl).2, ← hq])
  have HCB : Hid (cutB l0 = l0.set 31 (UInt8.ofNat u)) := Lib.hid (by rw [hu, hq]; rfl)
  have HQ : Hid (∀ h : 31 < l0.length, (l0[31]'h).toNat = q) := Lib.hid fun h => by rw [hq, List.getD_eq_getElem?_getD, List.getElem?_eq_getElem h]; rfl
  have HC31 : Hid (∀ W, Below w.heap.size w W → W.cell? ⟨gb, off + 31, none⟩ = some (.int .u8 (q : Int))) := Lib.hid fun W hW => (bs_cell (h0.below hW (Nat.le_refl _)) 31 (by rw [hl]; decide)).trans (by rw [HQ.out])
  obtain ⟨Y, hYv⟩ := nat_var (numL l0 32 % top)
  have HYv : Hid (numL l0 32 % top = Y) := Lib.hid hYv.symm
  have HY : Hid (Y < p25) := Lib.hid (by rw [hYv]; exact HYL.out)
  rw [← hYv] at hx
  have HRT := Lib.hid fun w => bes_some Y x w HY.out hx
  have Hx : Hid (x < p25) := Lib.hid (decX_some HY.out hx).1.1
  have a2 : bits .and .u8 (q : Int) 128 = 128 := by have h := and128 q hql; rw [← HSG.out, ho] at h; exact h
  have HX0 := Lib.hid (decide_eq_false hx0)
  clear hx0
  clear ho
  clear hx hYv
  clear hq hql hu hcells h0 hl hY
  have Bw0 := Below.refl w.heap.size w
  have HGS : Hid (∀ wq : World, Below w.heap.size w wq → w.heap.size ≤ wq.heap.size) := Lib.hid fun wq h => h.size
  have HF_b0 := HF0
  go_enter Try.func10, Try.ntmps10
  go_wp2_with (first
    | (have hgo := Bw0; clear hgo
       refine wpList_alloc_row rfl 29 rfl 12 (u64f fun _ => 0) zeroQ ?_
       intro b_t2 w1 lk r_t2 kk
       have l_t2 := zrl HGS Bw0 lk
       have a_b0_t2 := Bs.away f_b0 lk
       replace f_b0 := zfb f_b0 kk
       have Bw1 := zbt HGS Bw0 kk
       clear Bw0 kk lk)
    | (have hgo := Bw1; clear hgo
       refine wpList_rows1 rfl (.tmp 13) rfl f_b0 rfl ?_
       intro v_r14 w3 F_r14 kk
       replace r_t2 := zrb r_t2 kk
       replace f_b0 := zfb f_b0 kk
       have Bw2 := zbt HGS Bw1 kk
       clear Bw1 kk)
    | (have hgo := Bw2; clear hgo
       go_at_call 35
       refine (cat_any _ _ _ F_r14 (by rw [List.flatten_singleton, HL.out]; decide)).mono ?_
       rintro e w4 ⟨v_c, rfl, o_c, kk⟩
       rw [List.flatten_singleton] at o_c
       clear F_r14
       obtain ⟨g, cap, hv, hg, hgs, _, _⟩ := o_c.open_cons (by rw [HL.out]; decide)
       rw [HL.out] at hv
       subst hv
       have n_c : b_t2 ≠ g := Nat.ne_of_lt (Nat.lt_of_lt_of_le (World.rowIs.lt r_t2) hg)
       have HCAP : Hid (32 ≤ cap) := Lib.hid (owns_cap o_c)
       have HGB : Hid (w.heap.size ≤ g) := Lib.hid (Nat.le_trans (HGS.out _ Bw2) hg)
       replace o_c := o_c.lower (HGS.out _ Bw2)
       clear hg hgs
       replace r_t2 := zrb r_t2 kk
       replace f_b0 := zfb f_b0 kk
       have Bw3 := zbt HGS Bw2 kk
       clear Bw2 kk)
    | (have hgo := Bw3; clear hgo
       refine wpList_load_byte rfl (.tmp 17) rfl 31 q o_c HL.out.symm (by rw [HL.out]; decide) rfl (HQ.out _) ?_
       have Bw4 := Bw3
       clear Bw3)
    | (have hgo := Bw4; clear hgo
       refine wpList_store_byte rfl (.tmp 20) (.tmp 19) rfl 31 u o_c HL.out.symm HCAP.out (by rw [HL.out]; decide) rfl rfl HUL.out ?_
       intro w5 o_d gk
       have Bw5 := Bw4.grown gk (HGS.out _ Bw4) (by intro k hk; cases hk; exact HGB.out)
       replace r_t2 := gb_rowIs r_t2 gk n_c
       replace f_b0 := HF_b0.out.below Bw5 (Nat.le_refl _)
       rw [← HCB.out] at o_d
       have f_d := o_d.bs
       clear Bw4 gk o_d o_c)
    | (have hgo := Bw5; clear hgo
       go_at_call 36
       refine (strict_yes _ l0 _ Y _ f_d rfl HL.out HYv.out HY.out).mono ?_
       rintro e w7 ⟨rfl, kk⟩
       replace r_t2 := zrb r_t2 kk
       replace f_b0 := zfb f_b0 kk
       replace f_d := zfb f_d kk
       have Bw6 := zbt HGS Bw5 kk
       clear Bw5 kk)
    | (have hgo := Bw6; clear hgo
       refine wpList_alloc_row rfl 27 rfl 4 (u64f fun _ => 0) zeroE ?_
       intro b_t5 w11 lk r_t5 kk
       have n_t2_t5 := zrn r_t2 lk
       have l_t5 := zrl HGS Bw6 lk
       have a_b0_t5 := Bs.away f_b0 lk
       have a_d_t5 := Bs.away f_d lk
       replace r_t2 := zrb r_t2 kk
       replace f_b0 := zfb f_b0 kk
       replace f_d := zfb f_d kk
       have Bw7 := zbt HGS Bw6 kk
       clear Bw6 kk lk)
    | (have hgo := Bw7; clear hgo
       refine wpList_store_as rfl 27 (.tmp 5) (.tmp 24) rfl 4 (ewF Y) arrE r_t5 rfl rfl (by omega) (fun _ _ => rfl) (fun i hi => putN_whole hi) ?_
       intro w12 q gk
       replace r_t2 := gb_rowIs r_t2 gk n_t2_t5
       replace r_t5 := q
       have Bw8 := zbg HGS Bw7 gk l_t5
       replace f_b0 := gb_bs f_b0 gk a_b0_t5
       replace f_d := gb_bs f_d gk a_d_t5
       clear Bw7 gk q)
    | (have hgo := Bw8; clear hgo
       refine wpList_load_cat rfl (.tmp 30) rfl (HC31.out _ Bw8) rfl ?_
       have Bw9 := Bw8
       clear Bw8)
    | (have hgo := Bw9; clear hgo
       refine wpList_load_as rfl 27 (.tmp 5) rfl 4 (ewF Y) arrE r_t5 rfl (by omega) (fun i hi => by rw [Nat.zero_add]) ?_
       have Bw10 := Bw9
       clear Bw9)
    | (have hgo := Bw10; clear hgo
       go_at_call 37
       refine (HRT.out _).mono ?_
       rintro e w21 ⟨rfl, kk⟩
       replace r_t2 := zrb r_t2 kk
       replace r_t5 := zrb r_t5 kk
       replace f_b0 := zfb f_b0 kk
       replace f_d := zfb f_d kk
       have Bw11 := zbt HGS Bw10 kk
       clear Bw10 kk)
    | (have hgo := Bw11; clear hgo
       refine wpList_alloc_row rfl 27 rfl 4 (u64f fun _ => 0) zeroE ?_
       intro b_t8 w25 lk r_t8 kk
       have n_t2_t8 := zrn r_t2 lk
       have n_t5_t8 := zrn r_t5 lk
       have l_t8 := zrl HGS Bw11 lk
       have a_b0_t8 := Bs.away f_b0 lk
       have a_d_t8 := Bs.away f_d lk
       replace r_t2 := zrb r_t2 kk
       replace r_t5 := zrb r_t5 kk
       replace f_b0 := zfb f_b0 kk
       replace f_d := zfb f_d kk
       have Bw12 := zbt HGS Bw11 kk
       clear Bw11 kk lk)
    | (have hgo := Bw12; clear hgo
       refine wpList_store_as rfl 27 (.tmp 8) (.tmp 37) rfl 4 (ewF x) arrE r_t8 rfl rfl (by omega) (fun _ _ => rfl) (fun i hi => putN_whole hi) ?_
       intro w26 q gk
       replace r_t2 := gb_rowIs r_t2 gk n_t2_t8
       replace r_t5 := gb_rowIs r_t5 gk n_t5_t8
       replace r_t8 := q
       have Bw13 := zbg HGS Bw12 gk l_t8
       replace f_b0 := gb_bs f_b0 gk a_b0_t8
       replace f_d := gb_bs f_d gk a_d_t8
       clear Bw12 gk q)
    | (have hgo := Bw13; clear hgo
       refine wpList_load_asg rfl 27 (.tmp 8) rfl 4 (ewF x) arrE r_t8 rfl (by omega) (fun i hi => by rw [Nat.zero_add]) ?_
       have Bw14 := Bw13
       clear Bw13)
    | (have hgo := Bw14; clear hgo
       refine wpList_value_given rfl (.agg (arrOf 4 (ewF 0))) (by rw [exec_mkOp]; exact exec_zeroE _ _) ?_
       have Bw15 := Bw14
       clear Bw14)
    | (have hgo := Bw15; clear hgo
       go_at_call 38
       refine (sameB_any x 0 false _ Hx.out p25_pos HX0.out).mono ?_
       rintro e w35 ⟨rfl, kk⟩
       replace r_t2 := zrb r_t2 kk
       replace r_t5 := zrb r_t5 kk
       replace r_t8 := zrb r_t8 kk
       replace f_b0 := zfb f_b0 kk
       replace f_d := zfb f_d kk
       have Bw16 := zbt HGS Bw15 kk
       clear Bw15 kk))
  clear f_d f_b0
  go_wp2
  have Bw17 := Bw16.drew
  replace r_t2 := World.rowIs.drew r_t2
  replace r_t5 := World.rowIs.drew r_t5
  replace r_t8 := World.rowIs.drew r_t8
  clear Bw16
  refine zpo [b_t2] (.rd 0 (.rd 1 (.rd 3 (.rd 5 .done)))) #[true, true, false, true, false, true, false, false, false, false] [2, 4, 6, 7, 8, 9] [some 52, some 54, some 56, some 57, none, some 3] [[], [0], [1], [1, 2], [0, 1, 2, 3], [0, 1, 2, 3, 4]] [(0, []), (1, []), (2, [1]), (3, []), (4, [0, 2, 3, 2]), (5, []), (6, [4]), (7, [4, 5, 6]), (8, [7, 6, 0, 1, 2, 3, 4, 5, 6, 7]), (9, [8, 0, 1, 2, 3, 4, 5, 6, 7, 8])] 43 ?_
  refine zmv (.bool true) rfl rfl rfl rfl rfl ?_
  simp only [Act.put, zA, zB, zC]
  refine zld (ewF x) arrE r_t8 (cont1 (Ne.symm n_t2_t8)) (fun i hi => by rw [Nat.zero_add]) rfl rfl rfl rfl rfl (by omega) ?_
  refine zld (ewF x) arrE r_t8 (cont1 (Ne.symm n_t2_t8)) (fun i hi => by rw [Nat.zero_add]) rfl rfl rfl rfl rfl (by omega) ?_
  refine zld (ewF Y) arrE r_t5 (cont1 (Ne.symm n_t2_t5)) (fun i hi => by rw [Nat.zero_add]) rfl rfl rfl rfl rfl (by omega) ?_
  simp only [Act.put, zA, zB, zC]
  refine lintz_leaf ?_
  refine po_start [.val (.agg (arrOf 4 (ewF (oppP x)))), .val (.agg (arrOf 4 (ewF (oppP x)))), .val (.agg (arrOf 4 (ewF 1))), .val (.agg (arrOf 12 (qF (oppP x) Y 1))), .nil, .val ((.int .i64 0))] [⟨b_t2, 29, 12, (u64f fun _ => 0), 4, (qF (oppP x) Y 1)⟩] (fun i hi => by obtain rfl : i = 0 := by { have h9 : i < 1 := hi; omega }; exact r_t2) (fun HWF m gz wa p az hp hm hmp hcl hdn hE hJ hS hO => ?_) (fun gz wa hE hJ => ?_)
  · rcases (show p = 0 ∨ p = 1 ∨ p = 2 ∨ p = 3 ∨ p = 4 ∨ p = 5 by have h9 : p < 6 := hp; omega) with rfl | rfl | rfl | rfl | rfl | rfl
    · have e51 : az.eval (.tmp 51) = .agg (arrOf 4 (ewF x)) := hO 51 rfl
      exact po_k HWF hJ hE (neg_any x _ Hx.out) rfl rfl rfl rfl rfl rfl (ar1 e51)
    · have e50 : az.eval (.tmp 50) = .bool true := hO 50 rfl
      have e53 : az.eval (.tmp 53) = .agg (arrOf 4 (ewF x)) := hO 53 rfl
      exact po_k HWF hJ hE (pick_to true (oppP x) x _) rfl rfl rfl rfl rfl rfl (ar3 e50 (po_e hS hdn hJ 0 52 rfl rfl rfl rfl) e53)
    · exact po_k HWF hJ hE (small_any 1 _ (by decide)) rfl rfl rfl rfl rfl rfl (ar1 rfl)
    · have e54 := po_e hS hdn hJ 1 54 rfl rfl rfl rfl
      have e55 : az.eval (.tmp 55) = .agg (arrOf 4 (ewF Y)) := hO 55 rfl
      have e56 := po_e hS hdn hJ 2 56 rfl rfl rfl rfl
      exact po_p _ HWF hJ hE rfl rfl rfl rfl rfl rfl rfl (exec_build_as _ _ _ (by simp only [List.map_toArray, List.map_cons, List.map_nil, e54, e55, e56]; exact builtQ _ _ _))
    · exact po_storeOld 0 (.tmp 2) (.tmp 57) 29 b_t2 12 _ (by rw [hm]; exact hp) hmp hJ rfl (show 0 < 1 by decide) rfl rfl rfl rfl rfl (World.rowIs.lt r_t2) (by simp) (by kernel_rfl) po_ne1 hE rfl rfl rfl rfl rfl (hO 2 rfl) (po_e hS hdn hJ 3 57 rfl rfl rfl rfl) arrQ (fun j _ => qF_one _ _ _ j)
    · exact po_p _ HWF hJ hE rfl rfl rfl rfl rfl rfl rfl (x_assign rfl)
  · rw [putO_true _ _ _ _ _ rfl]
    simp only [putA, Nat.zero_add, Nat.reduceAdd]
    rw [hJ.tt 0 rfl, hJ.tt 1 rfl, hJ.tt 2 rfl, hJ.tt 3 rfl, hJ.tt 5 rfl]
    simp only [Act.put, zA, zB, zC]
    refine po_end ?_
    replace r_t2 : wa.rowIs b_t2 29 12 (qF (oppP x) Y 1) := hJ.old 0 (show 0 < 1 by decide) (show 4 < 6 by decide)
    replace r_t5 := Keep.row hE r_t5 (cont1 (Ne.symm n_t2_t5))
    replace r_t8 := Keep.row hE r_t8 (cont1 (Ne.symm n_t2_t8))
    have Bw18 := hE.below Bw17 (HGS.out _ Bw17) (keep_all1 l_t2)
    clear Bw17 hE hJ 
    go_wp2
    exact ret_cell_as_tmp _ rfl arrQ r_t2 rfl rfl (by omega) (fun _ _ => rfl) rfl ⟨by rw [HYv.out]; rfl, Bw18⟩
theorem qTDecode_any (v : Value) (l : List UInt8) (w : World) (h : Bs w v l) : Calls Try.prog 10 #[v] w fun e w' => e = .returned (.tuple #[.agg (arrOf 12 (qT (eT l))), .int .i64 (decE l)]) ∧ Below w.heap.size w w' := by
  by_cases hl : l.length = 32
  · by_cases hY : numL l 32 % top < p25
    · cases hx : decX (numL l 32 % top) with
      | none =>
        have e : decN l = none := by unfold decN; rw [if_pos ⟨hl, hY⟩, hx]; rfl
        unfold eT decE
        rw [e]
        exact qDecode_3 v l w h hl hY hx
      | some x =>
        have hs : numL l 32 / top < 2 := by
          rw [(numL_cut l hl).2]
          exact Nat.div_lt_of_lt_mul (UInt8.toNat_lt _)
        by_cases ho : numL l 32 / top = 1
        · by_cases hx0 : x = 0
          · have e : decN l = none := by unfold decN; rw [if_pos ⟨hl, hY⟩, hx, Option.bind_some, if_pos ⟨ho, hx0⟩]
            unfold eT decE
            rw [e]
            exact qDecode_4 v l w h hl hY x hx ho hx0
          · have e : decN l = some (oppP x, numL l 32 % top) := by unfold decN; rw [if_pos ⟨hl, hY⟩, hx, Option.bind_some, if_neg (fun k => hx0 k.2), if_pos ho]
            unfold eT decE
            rw [e]
            exact qDecode_6 v l w h hl hY x hx ho hx0
        · have ho0 : numL l 32 / top = 0 := (show ∀ s : Nat, s < 2 → s ≠ 1 → s = 0 by omega) _ hs ho
          have e : decN l = some (x, numL l 32 % top) := by unfold decN; rw [if_pos ⟨hl, hY⟩, hx, Option.bind_some, if_neg (fun k => ho k.1), if_neg ho]
          unfold eT decE
          rw [e]
          exact qDecode_5 v l w h hl hY x hx ho0
    · have e : decN l = none := by unfold decN; rw [if_neg (fun k => hY k.2)]
      unfold eT decE
      rw [e]
      exact qDecode_2 v l w h hl hY
  · have e : decN l = none := by unfold decN; rw [if_neg (fun k => hl k.1)]
    unfold eT decE
    rw [e]
    exact qDecode_1 v l w h hl
theorem qTEncode_any (t : Nat × Nat × Nat) (w : World) (h : LtT t) : Calls Try.prog 13 #[.agg (arrOf 12 (qT t))] w fun e w' => ∃ v, e = .returned v ∧ Owns w' w.heap.size v (litB (encQ t) 32) ∧ Below w.heap.size w w' := qEncode_any t.1 t.2.1 t.2.2 w h.1 h.2.1 h.2.2
end Go.Proofs.Ytphkmaihnbhgoaa

/- What the laws of chapter 7 share: is, awake. -/
namespace Go.Proofs.Ytphkmaihnbhgoaa
open Go.RowKit Go.Deep
set_option linter.unusedSimpArgs false
set_option linter.unusedVariables false

theorem sWide_to (v : Value) (l : List UInt8) (w : World) (hv : Bs w v l) (V : Nat) (h : numL l 64 % ordL = V) : Calls Try.prog 18 #[v] w fun e w' => e = .returned (.agg (arrOf 4 (ewF V))) ∧ Below w.heap.size w w' := by
  rw [← h]
  exact sWide_any v l w hv
theorem refWide_to (v : Value) (l : List UInt8) (w : World) (hv : Bs w v l) (V : Nat) (h : numL l 64 % ordL = V) : Calls Try.prog 21 #[v] w fun e w' => e = .returned (.agg (arrOf 32 (bF 32 V))) ∧ Below w.heap.size w w' := by
  rw [← h]
  exact refWide_any v l w hv
end Go.Proofs.Ytphkmaihnbhgoaa

/- What the laws of chapter 8 share: is, awake. -/
namespace Go.Proofs.Ytphkmaihnbhgoaa
open Go.RowKit Go.Deep
set_option linter.unusedSimpArgs false
set_option linter.unusedVariables false

theorem small_to (t : Nat × Nat × Nat) (b : Bool) (w : World) (h : LtT t) (hb : qSmall t = b) : Calls Try.prog 14 #[.agg (arrOf 12 (qT t))] w fun e w' => e = .returned (.bool b) ∧ Below w.heap.size w w' := by
  have g := qTSmall_any t w h
  rwa [hb] at g
theorem small_zero : qSmall (0, 0, 0) = true := by
  rw [RQ.none.small, mulE_zero]
  exact decide_eq_true rfl
theorem encQ_base : encQ bT = ptB.2 := by rw [RQ.base.enc, base_enc]
theorem dec_nil (w : World) : Calls Try.prog 10 #[.slice none 0 0] w fun e w' => e = .returned (.tuple #[.agg (arrOf 12 (qT (0, 0, 0))), .int .i64 12]) ∧ Below w.heap.size w w' := by
  have g := qTDecode_any (.slice none 0 0) [] w (Bs.nil w)
  have e : decN [] = none := by
    unfold decN
    rw [if_neg]
    rintro ⟨h, _⟩
    cases h
  unfold eT decE at g
  rw [e] at g
  exact g
theorem base_bytes : ((litB ptB.2 32).getD 0 0).toNat = 88 ∧ ((litB ptB.2 32).getD 1 0).toNat = 102 ∧ ((litB ptB.2 32).getD 31 0).toNat = 102 := by decide +kernel
set_option maxHeartbeats 4000000 in
set_option maxRecDepth 10000 in
theorem is8_any (a b : Nat × Nat × Nat) (w : World) (Ha : LtT a) (Hb : LtT b) (HE : encQ a = encA b) : Calls Try.prog 12 #[.agg (arrOf 12 (qT a)), .agg (arrOf 48 (ptT b))] w fun e w' => e = .returned (.bool true) ∧ Below w.heap.size w w' := by
  have Bw0 := Below.refl w.heap.size w
  have HGS : Hid (∀ wq : World, Below w.heap.size w wq → w.heap.size ≤ wq.heap.size) := Lib.hid fun wq h => h.size
  replace Ha := Lib.hid Ha
  replace Hb := Lib.hid Hb
  replace HE := Lib.hid HE
  go_enter Try.func12, Try.ntmps12
  go_wp2_with (first
    | (have hgo := Bw0; clear hgo
       refine wpList_box_row rfl 29 (.tmp 0) rfl 12 (qT a) rfl ?_
       intro b_t2 w1 lk r_t2 kk
       have l_t2 := zrl HGS Bw0 lk
       have Bw1 := zbt HGS Bw0 kk
       clear Bw0 kk lk)
    | (have hgo := Bw1; clear hgo
       refine wpList_box_row rfl 36 (.tmp 1) rfl 48 (ptT b) rfl ?_
       intro b_t3 w2 lk r_t3 kk
       have n_t2_t3 := zrn r_t2 lk
       have l_t3 := zrl HGS Bw1 lk
       replace r_t2 := zrb r_t2 kk
       have Bw2 := zbt HGS Bw1 kk
       clear Bw1 kk lk))
  have Bw3 := Bw2.drew
  replace r_t2 := World.rowIs.drew r_t2
  replace r_t3 := World.rowIs.drew r_t3
  clear Bw2
  refine zpo [] (.rd 0 (.rd 3 .done)) #[true, false, false, true, false, false, false, false] [1, 2, 4, 5, 6, 7] [some 6, some 7, some 9, some 10, some 11, some 4] [[], [0], [0], [2], [1, 3], [0, 1, 2, 3, 4]] [(0, []), (1, [0]), (2, [1]), (3, []), (4, [3, 1]), (5, [4]), (6, [2, 5]), (7, [6, 4, 0, 1, 2, 3, 4, 5, 6])] 9 ?_
  refine zld (qT a) arrQ r_t2 rfl (fun i hi => by rw [Nat.zero_add]) rfl rfl rfl rfl rfl (by omega) ?_
  refine zld (ptT b) arrP r_t3 rfl (fun i hi => by rw [Nat.zero_add]) rfl rfl rfl rfl rfl (by omega) ?_
  simp only [Act.put, zA, zB, zC]
  refine lintz_leaf ?_
  refine po_start [.own (litB (encQ a) 32) 6, .val (.string ⟨(litB (encQ a) 32).toArray⟩), .own (litB (encA b) 32) 6, .val (.string ⟨(litB (encA b) 32).toArray⟩), .val (.bool true), .val (.bool true)] [] (fun i hi => absurd hi (Nat.not_lt_zero _)) (fun HWF m gz wa p az hp hm hmp hcl hdn hE hJ hS hO => ?_) (fun gz wa hE hJ => ?_)
  · rcases (show p = 0 ∨ p = 1 ∨ p = 2 ∨ p = 3 ∨ p = 4 ∨ p = 5 by have h9 : p < 6 := hp; omega) with rfl | rfl | rfl | rfl | rfl | rfl
    · have e5 : az.eval (.tmp 5) = .agg (arrOf 12 (qT a)) := hO 5 rfl
      exact po_ko HWF hJ hE (qTEncode_any a _ Ha.out) rfl rfl rfl rfl rfl rfl (ar1 e5)
    · exact po_p _ HWF hJ hE rfl rfl rfl rfl rfl rfl rfl (exec_str _ _ _ (po_e0 hS hdn 0 6 rfl rfl rfl) (hJ.own (hdn 0 (by decide)) rfl (po_never hm (Nat.le_refl _))).bs)
    · have e8 : az.eval (.tmp 8) = .agg (arrOf 48 (ptT b)) := hO 8 rfl
      exact po_ko HWF hJ hE (tEncode_any b _ Hb.out) rfl rfl rfl rfl rfl rfl (ar1 e8)
    · exact po_p _ HWF hJ hE rfl rfl rfl rfl rfl rfl rfl (exec_str _ _ _ (po_e0 hS hdn 2 9 rfl rfl rfl) (hJ.own (hdn 2 (by decide)) rfl (po_never hm (Nat.le_refl _))).bs)
    · exact po_p _ HWF hJ hE rfl rfl rfl rfl rfl rfl rfl (exec_str_yes _ _ _ _ (by rw [HE.out]) (po_e hS hdn hJ 1 7 rfl rfl rfl rfl) (po_e hS hdn hJ 3 10 rfl rfl rfl rfl))
    · exact po_p _ HWF hJ hE rfl rfl rfl rfl rfl rfl rfl (x_assign (po_e hS hdn hJ 4 11 rfl rfl rfl rfl))
  · rw [putO_true _ _ _ _ _ rfl]
    simp only [putA, Nat.zero_add, Nat.reduceAdd]
    rw [hJ.tt 1 rfl, hJ.tt 3 rfl, hJ.tt 4 rfl, hJ.tt 5 rfl]
    simp only [Act.put, zA, zB, zC]
    refine po_end ?_
    replace r_t2 := Keep.row hE r_t2 rfl
    replace r_t3 := Keep.row hE r_t3 rfl
    have Bw4 := hE.below Bw3 (HGS.out _ Bw3) rfl
    clear Bw3 hE hJ 
    go_wp2
    go_ret
    exact ⟨rfl, Bw4⟩
theorem exec_zeroQT {w : World} (ρ : Operand → Value) (t : TypeId) : (execOp ρ (mkOp (.build 29 #[]) t)).run Try.prog w = .ok (.value (.agg (arrOf 12 (qT (0, 0, 0))))) w := by
  have hr := run_build w 29 #[] (arrOf 12 (qT (0, 0, 0))) builtQT0
  simp [execOp, mkOp, hr, Result.andThen]
set_option maxHeartbeats 4000000 in
set_option maxRecDepth 10000 in
theorem awake8_any (w : World) : Calls Try.prog 9 #[] w fun e w' => e = .returned (.bool true) ∧ Below w.heap.size w w' := by
  have Bw0 := Below.refl w.heap.size w
  have HGS : Hid (∀ wq : World, Below w.heap.size w wq → w.heap.size ≤ wq.heap.size) := Lib.hid fun wq h => h.size
  go_enter Try.func9, Try.ntmps9
  go_wp2_with (first
    | (have hgo := Bw0; clear hgo
       go_at_call 16
       refine (qTBase_any _).mono ?_
       rintro e w2 ⟨rfl, kk⟩
       have Bw1 := zbt HGS Bw0 kk
       clear Bw0 kk)
    | (have hgo := Bw1; clear hgo
       go_at_call 13
       refine (qTEncode_any bT _ LtT.base).mono ?_
       rintro e w3 ⟨v_e, rfl, o_e, kk⟩
       rw [encQ_base] at o_e
       obtain ⟨g, cap, hv, hg, hgs, _, _⟩ := o_e.open_cons (by rw [litB_length]; decide)
       rw [litB_length] at hv
       subst hv
       have f_e := o_e.bs
       clear hg hgs o_e
       have Bw2 := zbt HGS Bw1 kk
       clear Bw1 kk)
    | (have hgo := Bw2; clear hgo
       go_at_call 10
       refine (dec_nil _).mono ?_
       rintro e w4 ⟨rfl, kk⟩
       replace f_e := zfb f_e kk
       have Bw3 := zbt HGS Bw2 kk
       clear Bw2 kk)
    | (have hgo := Bw3; clear hgo
       refine wpList_alloc_row rfl 29 rfl 12 (u64f fun _ => 0) zeroQ ?_
       intro b_t2 w8 lk r_t2 kk
       have l_t2 := zrl HGS Bw3 lk
       have a_e_t2 := Bs.away f_e lk
       replace f_e := zfb f_e kk
       have Bw4 := zbt HGS Bw3 kk
       clear Bw3 kk lk)
    | (have hgo := Bw4; clear hgo
       refine wpList_store_as rfl 29 (.tmp 2) (.tmp 8) rfl 12 (qT (0, 0, 0)) arrQ r_t2 rfl rfl (by omega) (fun j _ => qF_one _ _ _ j) (fun i hi => putN_whole hi) ?_
       intro w9 q gk
       replace r_t2 := q
       have Bw5 := zbg HGS Bw4 gk l_t2
       replace f_e := gb_bs f_e gk a_e_t2
       clear Bw4 gk q
       have hc0 := bs_cell f_e 0 (by rw [litB_length]; decide)
       have hc1 := bs_cell f_e 1 (by rw [litB_length]; decide)
       have hc31 := bs_cell f_e 31 (by rw [litB_length]; decide)
       obtain ⟨hz0, hz1, hz31⟩ := base_bytes
       rw [show ((litB ptB.2 32)[0]'(by rw [litB_length]; decide)).toNat = 88 from by rw [← hz0, List.getD_eq_getElem?_getD, List.getElem?_eq_getElem (by rw [litB_length]; decide)]; rfl] at hc0
       rw [Nat.zero_add] at hc0
       replace hc0 : _ = some (Value.int .u8 88) := hc0
       rw [show ((litB ptB.2 32)[1]'(by rw [litB_length]; decide)).toNat = 102 from by rw [← hz1, List.getD_eq_getElem?_getD, List.getElem?_eq_getElem (by rw [litB_length]; decide)]; rfl] at hc1
       rw [Nat.zero_add] at hc1
       replace hc1 : _ = some (Value.int .u8 102) := hc1
       rw [show ((litB ptB.2 32)[31]'(by rw [litB_length]; decide)).toNat = 102 from by rw [← hz31, List.getD_eq_getElem?_getD, List.getElem?_eq_getElem (by rw [litB_length]; decide)]; rfl] at hc31
       rw [Nat.zero_add] at hc31
       replace hc31 : _ = some (Value.int .u8 102) := hc31
       clear hz0 hz1 hz31 f_e)
    | (have hgo := Bw5; clear hgo
       refine wpList_value_given rfl (.agg (arrOf 12 (qT (0, 0, 0)))) (by rw [exec_mkOp]; exact exec_zeroQT _ _) ?_
       have Bw6 := Bw5
       clear Bw5)
    | (have hgo := Bw6; clear hgo
       go_at_call 14
       refine (small_to (0, 0, 0) true _ LtT.none small_zero).mono ?_
       rintro e w38 ⟨rfl, kk⟩
       replace r_t2 := zrb r_t2 kk
       have Bw7 := zbt HGS Bw6 kk
       clear Bw6 kk))
  go_ret
  exact ⟨rfl, Bw7⟩
end Go.Proofs.Ytphkmaihnbhgoaa

/- The points of small order, the base's order: what PointOrder needs. -/
namespace Go.Proofs.Ytphkmaihnbhgoaa
open Go.RowKit Go.Deep
set_option linter.unusedSimpArgs false
set_option linter.unusedVariables false

end Go.Proofs.Ytphkmaihnbhgoaa

/- A point's form with its sign turned. -/
set_option linter.unusedSimpArgs false
set_option linter.unusedVariables false
namespace Go.Proofs.Ytphkmaihnbhgoaa

end Go.Proofs.Ytphkmaihnbhgoaa

/- From the reading of an argument to the words of the contracts: a slice of bytes, a slice of slices of bytes. -/
set_option linter.unusedSimpArgs false
set_option linter.unusedVariables false
namespace Go.Proofs.Ytphkmaihnbhgoaa
open Go.ChangeShapes Go.WideShapes Go.ChangeAt Go.RowKit Go.Deep

/-- The numbers of a row of bytes, as bytes. -/
def asB (zs : List Int) : List UInt8 := zs.map fun n => UInt8.ofNat n.toNat

theorem asB_at (n : Int) (h : 0 ≤ n ∧ n ≤ 255) : ((UInt8.ofNat n.toNat).toNat : Int) = n := by
  rw [UInt8.toNat_ofNat_of_lt' (by show n.toNat < 256; omega)]; omega

/-- A row of numbers whose cells are known, read as bytes. -/
theorem bs_of_cells {W : World} {a : Option Addr} {len cap : Nat} {zs : List Int} (hl : len ≤ cap) (hm : cap ≤ maxLen) (hz : zs.length = cap) (hn : a = none → cap = 0)
    (hwz : ∀ n ∈ zs, (Lit.int .u8 n).wf = true) (hcell : ∀ x, a = some x → ∀ i, i < cap → W.cell? (x.add i) = some (.int .u8 (zs.getD i 0))) : Bs W (.slice a len cap) (asB (zs.take len)) := by
  have hlen : (asB (zs.take len)).length = len := by simp [asB]; omega
  refine ⟨a, cap, by rw [hlen], by omega, hm, hn, fun y hy i hi => ?_⟩
  rw [hlen] at hi
  have hc := hcell y hy i (by omega)
  refine ⟨by rw [← add_block y i]; exact World.block_lt_of_cell? W _ hc, ?_⟩
  rw [hc]
  have hi2 : i < zs.length := by omega
  have hg : zs.getD i 0 = zs[i] := by simp [hi2]
  have hw := bd_u8 (hwz zs[i] (List.getElem_mem _))
  rw [← hg] at hw
  have e : (asB (zs.take len))[i]'(by rw [hlen]; exact hi) = UInt8.ofNat (zs.getD i 0).toNat := by
    simp [asB, List.getElem?_eq_getElem (show i < zs.length by omega)]
  rw [e, asB_at _ hw]

theorem bs_of_trod {H : Type} {enc : TypeId × Value → H} {W : World} {a : Option Addr} {len cap : Nat} {d : DataW H} {ps : List MemPlace}
    (h : DataW.Trod enc Try.prog W 0 (fun _ => true) true 22 (.slice a len cap) d ps) : ∃ l, Bs W (.slice a len cap) l := by
  obtain ⟨fuel, hf⟩ := h
  rcases open_ints Try.underlying22 Try.underlying5 (by kernel_rfl) hf with ⟨hcs, _⟩ | ⟨x, l, c, zs, hcs, _, hl, hm, hz, _, hcell, hwz⟩
  · simp [Value.cells] at hcs
    obtain ⟨rfl, rfl, rfl⟩ := hcs
    exact ⟨[], Bs.nil W⟩
  · simp [Value.cells] at hcs
    obtain ⟨rfl, rfl, rfl⟩ := hcs
    have hz' : zs.length = cap := by simpa using hz
    exact ⟨_, bs_of_cells hl hm hz' (fun h => by cases h) hwz (fun y hy i hi => by cases hy; exact hcell i (by omega))⟩

end Go.Proofs.Ytphkmaihnbhgoaa
