/- Texts joined: what they are for stands ahead of each. -/
import Derived.Test.YtonhpmaiagbheaaGreatMV4
import Derived.ArgAppend
import Derived.Laws.StandIn
import Derived.BigQuiet
import Derived.Deep.QuietTactic
import Derived.WalkSmall
import Derived.Lib.SlBytesConst
import Derived.StillTailTactics
import Derived.Lib.AppendZeros
import Derived.BigRegion
set_option linter.unusedSimpArgs false
set_option linter.unusedVariables false

namespace Go.Proofs.YtonhpmaiagbheaaGreat
open Go.RowKit Go.Deep
theorem notand128 (x : Nat) (h : x < 256) : bits .andNot .u8 (x : Int) 128 = ((x % 128 : Nat) : Int) := by
 have g : ∀ q : Fin 256, bits .andNot .u8 ((q.val : Nat) : Int) 128 = ((q.val % 128 : Nat) : Int) := by decide +kernel
 exact g ⟨x, h⟩
theorem and128 (x : Nat) (h : x < 256) : bits .and .u8 (x : Int) 128 = ((128 * (x / 128) : Nat) : Int) := by
 have g : ∀ q : Fin 256, bits .and .u8 ((q.val : Nat) : Int) 128 = ((128 * (q.val / 128) : Nat) : Int) := by decide +kernel
 exact g ⟨x, h⟩
theorem exec_zeroE {w : World} (ρ : Operand → Value) (t : TypeId) : (execOp ρ (mkOp (.build 51 #[]) t)).run Tryz.prog w = .ok (.value (.agg (arrOf 4 (ewF 0)))) w := by
 have hr := run_build w 51 #[] (arrOf 4 (ewF 0)) builtE0
 simp [execOp, mkOp, hr, Result.andThen]
theorem exec_rowsP1 (ρ : Operand → Value) (x : Operand) (t : TypeId) (w : World) {v1 : Value} {l1 : List UInt8} (h1 : Bs w v1 l1) (hx : ρ x = v1) :
   (execOp ρ (mkOp (.buildSlice 23 1 #[(0, x)]) t)).run Tryz.prog w = .ok (.value (.slice (some ⟨w.heap.size, 0, none⟩) 1 1)) (w.alloc (.cells #[v1] 22)) := by
 obtain ⟨a1, c1, rfl, _⟩ := h1
 simp only [execOp, mkOp, List.map_toArray, List.map_cons, List.map_nil, hx]
 go_simp
theorem wpList_rows1 {ops : Array Oper} {rest : List Oper} {o : Oper} {a : Act} {w : World} {Q : Exit → Act → World → Prop} (hgd : o.guard = none) (x : Operand) (ho : o.op = .buildSlice 23 1 #[(0, x)]) {v1 : Value} {l1 : List UInt8} (h1 : Bs w v1 l1) (hx : a.eval x = v1)
   (h : ∀ v w', Bss w' v [l1] → Below w.heap.size w w' → wpList Tryz.prog ops Q rest (a.put o.dst v) w') : wpList Tryz.prog ops Q (o :: rest) a w := by
 have hr := exec_rowsP1 a.eval x o.type w h1 hx
 exact wpList_plain hgd fun _ hK => by
   unfold Oper.wp
   rw [exec_mkOp, ho, hr]
   exact hK _ _ (h _ _ (Bss.one h1 rfl) ((Below.refl _ _).alloc (Nat.le_refl _) _))
theorem strict_yes (v : Value) (l C : List UInt8) (Y : Nat) (w : World) (h : Bs w v C) (hC : C = cutB l) (hl : l.length = 32) (hY : numL l 32 % top = Y) (hYl : Y < p25) :
   Calls Tryz.prog 86 #[v] w fun e w' => e = .returned (.tuple #[.agg (arrOf 4 (ewF Y)), .int .i64 0]) ∧ Below w.heap.size w w' := by
 have g := strict_any v C w h
 have e : strictL C = some Y := by rw [hC, strict_cut l hl, hY, if_pos hYl]
 rw [e] at g
 exact g
theorem strict_no (v : Value) (l C : List UInt8) (w : World) (h : Bs w v C) (hC : C = cutB l) (hl : l.length = 32) (hYl : ¬ numL l 32 % top < p25) :
   Calls Tryz.prog 86 #[v] w fun e w' => e = .returned (.tuple #[.agg (arrOf 4 (ewF 0)), .int .i64 2]) ∧ Below w.heap.size w w' := by
 have g := strict_any v C w h
 have e : strictL C = none := by rw [hC, strict_cut l hl, if_neg hYl]
 rw [e] at g
 exact g
theorem bes_some (Y x : Nat) (w : World) (hY : Y < p25) (hx : decX Y = some x) : Calls Tryz.prog 87 #[.agg (arrOf 4 (ewF Y))] w fun e w' => e = .returned (.tuple #[.agg (arrOf 4 (ewF x)), .int .i64 0]) ∧ Below w.heap.size w w' := by
 have g := beside_any Y w hY
 rw [hx] at g
 exact g
theorem bes_none (Y : Nat) (w : World) (hY : Y < p25) (hx : decX Y = none) : Calls Tryz.prog 87 #[.agg (arrOf 4 (ewF Y))] w fun e w' => e = .returned (.tuple #[.agg (arrOf 4 (ewF 0)), .int .i64 7]) ∧ Below w.heap.size w w' := by
 have g := beside_any Y w hY
 rw [hx] at g
 exact g
theorem pick_to (y : Bool) (A C : Nat) (w : World) : Calls Tryz.prog 89 #[.bool y, .agg (arrOf 4 (ewF A)), .agg (arrOf 4 (ewF C))] w fun e w' => e = .returned (.agg (arrOf 4 (ewF (if y = true then A else C)))) ∧ Below w.heap.size w w' := pick_any y A C w
set_option maxHeartbeats 4000000 in
set_option maxRecDepth 10000 in
theorem qDecode_1 (v0 : Value) (l0 : List UInt8) (w : World) (h0 : Bs w v0 l0) (hl : ¬ l0.length = 32) : Calls Tryz.prog 39 #[v0] w fun e w' => e = .returned (.tuple #[.agg (arrOf 12 (qF 0 0 0)), .int .i64 12]) ∧ Below w.heap.size w w' := by
 have B00 := Below.refl w.heap.size w
 obtain ⟨ad0, n0, c0, rfl, e0, y0, z0, hB0⟩ := h0.shape
 have q0 : ¬ (n0 : Int) = 32 := by omega
 clear h0 hB0 B00
 have Bw0 := Below.refl w.heap.size w
 have HGS : Hid (∀ wq : World, Below w.heap.size w wq → w.heap.size ≤ wq.heap.size) := Lib.hid fun wq h => h.size
 go_enter Tryz.func39, Tryz.ntmps39
 go_wp2_with (first
   | (have hgo := Bw0; clear hgo
      refine wpList_alloc_row rfl 53 rfl 12 (u64f fun _ => 0) zeroQ ?_
      intro b_t2 w1 lk r_t2 kk
      have l_t2 := zrl HGS Bw0 lk
      have Bw1 := zbt HGS Bw0 kk
      clear Bw0 kk lk)
   | (have hgo := Bw1; clear hgo
      refine wpList_build_arr rfl 53 #[] rfl (arrOf 12 (qF 0 0 0)) ?_ ?_
      · simp only [List.map_toArray, List.map_cons, List.map_nil]; exact builtQ0
      have Bw2 := Bw1
      clear Bw1)
   | (have hgo := Bw2; clear hgo
      refine wpList_store_as rfl 53 (.tmp 2) (.tmp 12) rfl 12 (qF 0 0 0) arrQ r_t2 rfl rfl (by omega) (fun j _ => qF_one _ _ _ j) (fun i hi => putN_whole hi) ?_
      intro w4 q gk
      replace r_t2 := q
      have Bw3 := zbg HGS Bw2 gk l_t2
      clear Bw2 gk q))
 exact ret_cell_as_tmp _ rfl arrQ r_t2 rfl rfl (by omega) (fun _ _ => rfl) rfl ⟨rfl, Bw3⟩
set_option maxHeartbeats 4000000 in
set_option maxRecDepth 10000 in
theorem qDecode_2 (v0 : Value) (l0 : List UInt8) (w : World) (h0 : Bs w v0 l0) (hl : l0.length = 32) (hY : ¬ numL l0 32 % top < p25) : Calls Tryz.prog 39 #[v0] w fun e w' => e = .returned (.tuple #[.agg (arrOf 12 (qF 0 0 0)), .int .i64 12]) ∧ Below w.heap.size w w' := by
 have HYL := Lib.hid hY
 obtain ⟨gb, off, c0, rfl, y0, z0, hgb, hcells⟩ := h0.open_n hl (by decide)
 have HL := Lib.hid hl
 have HF0 := Lib.hid h0
 have f_b0 := h0
 obtain ⟨q, hq⟩ := nat_var ((l0.getD 31 0).toNat)
 have hql : q < 256 := by rw [hq]; exact UInt8.toNat_lt _
 have a1 := notand128 q hql
 obtain ⟨u, hu⟩ := nat_var (q % 128)
 rw [← hu] at a1
 have HUL : Hid (u < 256) := Lib.hid (by omega)
 have HQL := Lib.hid hql
 have HSG : Hid (numL l0 32 / top = q / 128) := Lib.hid (by rw [(numL_cut l0 hl).2, ← hq])
 have HCB : Hid (cutB l0 = l0.set 31 (UInt8.ofNat u)) := Lib.hid (by rw [hu, hq]; rfl)
 have HQ : Hid (∀ h : 31 < l0.length, (l0[31]'h).toNat = q) := Lib.hid fun h => by rw [hq, List.getD_eq_getElem?_getD, List.getElem?_eq_getElem h]; rfl
 have HC31 : Hid (∀ W, Below w.heap.size w W → W.cell? ⟨gb, off + 31, none⟩ = some (.int .u8 (q : Int))) := Lib.hid fun W hW => (bs_cell (h0.below hW (Nat.le_refl _)) 31 (by rw [hl]; decide)).trans (by rw [HQ.out])
 clear hq hql hu hcells h0 hl hY
 have Bw0 := Below.refl w.heap.size w
 have HGS : Hid (∀ wq : World, Below w.heap.size w wq → w.heap.size ≤ wq.heap.size) := Lib.hid fun wq h => h.size
 have HF_b0 := HF0
 go_enter Tryz.func39, Tryz.ntmps39
 go_wp2_with (first
   | (have hgo := Bw0; clear hgo
      refine wpList_alloc_row rfl 53 rfl 12 (u64f fun _ => 0) zeroQ ?_
      intro b_t2 w1 lk r_t2 kk
      have l_t2 := zrl HGS Bw0 lk
      have a_b0_t2 := Bs.away f_b0 lk
      replace f_b0 := zfb f_b0 kk
      have Bw1 := zbt HGS Bw0 kk
      clear Bw0 kk lk)
   | (have hgo := Bw1; clear hgo
      refine wpList_rows1 rfl (.tmp 13) rfl f_b0 rfl ?_
      intro v_r14 w3 F_r14 kk
      replace r_t2 := zrb r_t2 kk
      replace f_b0 := zfb f_b0 kk
      have Bw2 := zbt HGS Bw1 kk
      clear Bw1 kk)
   | (have hgo := Bw2; clear hgo
      go_at_call 21
      refine (cat_any _ _ _ F_r14 (by rw [List.flatten_singleton, HL.out]; decide)).mono ?_
      rintro e w4 ⟨v_c, rfl, o_c, kk⟩
      rw [List.flatten_singleton] at o_c
      clear F_r14
      obtain ⟨g, cap, hv, hg, hgs, _, _⟩ := o_c.open_cons (by rw [HL.out]; decide)
      rw [HL.out] at hv
      subst hv
      have n_c : b_t2 ≠ g := Nat.ne_of_lt (Nat.lt_of_lt_of_le (World.rowIs.lt r_t2) hg)
      have HCAP : Hid (32 ≤ cap) := Lib.hid (owns_cap o_c)
      have HGB : Hid (w.heap.size ≤ g) := Lib.hid (Nat.le_trans (HGS.out _ Bw2) hg)
      replace o_c := o_c.lower (HGS.out _ Bw2)
      clear hg hgs
      replace r_t2 := zrb r_t2 kk
      replace f_b0 := zfb f_b0 kk
      have Bw3 := zbt HGS Bw2 kk
      clear Bw2 kk)
   | (have hgo := Bw3; clear hgo
      refine wpList_load_byte rfl (.tmp 17) rfl 31 q o_c HL.out.symm (by rw [HL.out]; decide) rfl (HQ.out _) ?_
      have Bw4 := Bw3
      clear Bw3)
   | (have hgo := Bw4; clear hgo
      refine wpList_store_byte rfl (.tmp 20) (.tmp 19) rfl 31 u o_c HL.out.symm HCAP.out (by rw [HL.out]; decide) rfl rfl HUL.out ?_
      intro w5 o_d gk
      have Bw5 := Bw4.grown gk (HGS.out _ Bw4) (by intro k hk; cases hk; exact HGB.out)
      replace r_t2 := gb_rowIs r_t2 gk n_c
      replace f_b0 := HF_b0.out.below Bw5 (Nat.le_refl _)
      rw [← HCB.out] at o_d
      have f_d := o_d.bs
      clear Bw4 gk o_d o_c)
   | (have hgo := Bw5; clear hgo
      go_at_call 86
      refine (strict_no _ l0 _ _ f_d rfl HL.out HYL.out).mono ?_
      rintro e w7 ⟨rfl, kk⟩
      replace r_t2 := zrb r_t2 kk
      replace f_b0 := zfb f_b0 kk
      replace f_d := zfb f_d kk
      have Bw6 := zbt HGS Bw5 kk
      clear Bw5 kk)
   | (have hgo := Bw6; clear hgo
      refine wpList_alloc_row rfl 51 rfl 4 (u64f fun _ => 0) zeroE ?_
      intro b_t5 w11 lk r_t5 kk
      have n_t2_t5 := zrn r_t2 lk
      have l_t5 := zrl HGS Bw6 lk
      have a_b0_t5 := Bs.away f_b0 lk
      have a_d_t5 := Bs.away f_d lk
      replace r_t2 := zrb r_t2 kk
      replace f_b0 := zfb f_b0 kk
      replace f_d := zfb f_d kk
      have Bw7 := zbt HGS Bw6 kk
      clear Bw6 kk lk)
   | (have hgo := Bw7; clear hgo
      refine wpList_store_as rfl 51 (.tmp 5) (.tmp 24) rfl 4 (ewF 0) arrE r_t5 rfl rfl (by omega) (fun _ _ => rfl) (fun i hi => putN_whole hi) ?_
      intro w12 q gk
      replace r_t2 := gb_rowIs r_t2 gk n_t2_t5
      replace r_t5 := q
      have Bw8 := zbg HGS Bw7 gk l_t5
      replace f_b0 := gb_bs f_b0 gk a_b0_t5
      replace f_d := gb_bs f_d gk a_d_t5
      clear Bw7 gk q)
   | (have hgo := Bw8; clear hgo
      refine wpList_build_arr rfl 53 #[] rfl (arrOf 12 (qF 0 0 0)) ?_ ?_
      · simp only [List.map_toArray, List.map_cons, List.map_nil]; exact builtQ0
      have Bw9 := Bw8
      clear Bw8)
   | (have hgo := Bw9; clear hgo
      refine wpList_store_as rfl 53 (.tmp 2) (.tmp 28) rfl 12 (qF 0 0 0) arrQ r_t2 rfl rfl (by omega) (fun j _ => qF_one _ _ _ j) (fun i hi => putN_whole hi) ?_
      intro w15 q gk
      replace r_t5 := gb_rowIs r_t5 gk (Ne.symm n_t2_t5)
      replace r_t2 := q
      have Bw10 := zbg HGS Bw9 gk l_t2
      replace f_b0 := gb_bs f_b0 gk a_b0_t2
      clear f_d
      clear Bw9 gk q))
 exact ret_cell_as_tmp _ rfl arrQ r_t2 rfl rfl (by omega) (fun _ _ => rfl) rfl ⟨rfl, Bw10⟩
set_option maxHeartbeats 4000000 in
set_option maxRecDepth 10000 in
theorem qDecode_3 (v0 : Value) (l0 : List UInt8) (w : World) (h0 : Bs w v0 l0) (hl : l0.length = 32) (hY : numL l0 32 % top < p25) (hx : decX (numL l0 32 % top) = none) : Calls Tryz.prog 39 #[v0] w fun e w' => e = .returned (.tuple #[.agg (arrOf 12 (qF 0 0 0)), .int .i64 12]) ∧ Below w.heap.size w w' := by
 have HYL := Lib.hid hY
 obtain ⟨gb, off, c0, rfl, y0, z0, hgb, hcells⟩ := h0.open_n hl (by decide)
 have HL := Lib.hid hl
 have HF0 := Lib.hid h0
 have f_b0 := h0
 obtain ⟨q, hq⟩ := nat_var ((l0.getD 31 0).toNat)
 have hql : q < 256 := by rw [hq]; exact UInt8.toNat_lt _
 have a1 := notand128 q hql
 obtain ⟨u, hu⟩ := nat_var (q % 128)
 rw [← hu] at a1
 have HUL : Hid (u < 256) := Lib.hid (by omega)
 have HQL := Lib.hid hql
 have HSG : Hid (numL l0 32 / top = q / 128) := Lib.hid (by rw [(numL_cut l0 hl).2, ← hq])
 have HCB : Hid (cutB l0 = l0.set 31 (UInt8.ofNat u)) := Lib.hid (by rw [hu, hq]; rfl)
 have HQ : Hid (∀ h : 31 < l0.length, (l0[31]'h).toNat = q) := Lib.hid fun h => by rw [hq, List.getD_eq_getElem?_getD, List.getElem?_eq_getElem h]; rfl
 have HC31 : Hid (∀ W, Below w.heap.size w W → W.cell? ⟨gb, off + 31, none⟩ = some (.int .u8 (q : Int))) := Lib.hid fun W hW => (bs_cell (h0.below hW (Nat.le_refl _)) 31 (by rw [hl]; decide)).trans (by rw [HQ.out])
 obtain ⟨Y, hYv⟩ := nat_var (numL l0 32 % top)
 have HYv : Hid (numL l0 32 % top = Y) := Lib.hid hYv.symm
 have HY : Hid (Y < p25) := Lib.hid (by rw [hYv]; exact HYL.out)
 rw [← hYv] at hx
 have HRT := Lib.hid fun w => bes_none Y w HY.out hx
 obtain ⟨sg, hsg⟩ := nat_var (q / 128)
 have hsg2 : sg < 2 := by rw [hsg]; exact Nat.div_lt_of_lt_mul hql
 have a3 := and128 q hql
 rw [← hsg] at a3
 clear hsg
 rcases (show sg = 0 ∨ sg = 1 by omega) with rfl | rfl
 · have a2 : bits .and .u8 (q : Int) 128 = 0 := a3
   clear a3 hsg2 hx hYv
   clear hq hql hu hcells h0 hl hY
   have Bw0 := Below.refl w.heap.size w
   have HGS : Hid (∀ wq : World, Below w.heap.size w wq → w.heap.size ≤ wq.heap.size) := Lib.hid fun wq h => h.size
   have HF_b0 := HF0
   go_enter Tryz.func39, Tryz.ntmps39
   go_wp2_with (first
     | (have hgo := Bw0; clear hgo
        refine wpList_alloc_row rfl 53 rfl 12 (u64f fun _ => 0) zeroQ ?_
        intro b_t2 w1 lk r_t2 kk
        have l_t2 := zrl HGS Bw0 lk
        have a_b0_t2 := Bs.away f_b0 lk
        replace f_b0 := zfb f_b0 kk
        have Bw1 := zbt HGS Bw0 kk
        clear Bw0 kk lk)
     | (have hgo := Bw1; clear hgo
        refine wpList_rows1 rfl (.tmp 13) rfl f_b0 rfl ?_
        intro v_r14 w3 F_r14 kk
        replace r_t2 := zrb r_t2 kk
        replace f_b0 := zfb f_b0 kk
        have Bw2 := zbt HGS Bw1 kk
        clear Bw1 kk)
     | (have hgo := Bw2; clear hgo
        go_at_call 21
        refine (cat_any _ _ _ F_r14 (by rw [List.flatten_singleton, HL.out]; decide)).mono ?_
        rintro e w4 ⟨v_c, rfl, o_c, kk⟩
        rw [List.flatten_singleton] at o_c
        clear F_r14
        obtain ⟨g, cap, hv, hg, hgs, _, _⟩ := o_c.open_cons (by rw [HL.out]; decide)
        rw [HL.out] at hv
        subst hv
        have n_c : b_t2 ≠ g := Nat.ne_of_lt (Nat.lt_of_lt_of_le (World.rowIs.lt r_t2) hg)
        have HCAP : Hid (32 ≤ cap) := Lib.hid (owns_cap o_c)
        have HGB : Hid (w.heap.size ≤ g) := Lib.hid (Nat.le_trans (HGS.out _ Bw2) hg)
        replace o_c := o_c.lower (HGS.out _ Bw2)
        clear hg hgs
        replace r_t2 := zrb r_t2 kk
        replace f_b0 := zfb f_b0 kk
        have Bw3 := zbt HGS Bw2 kk
        clear Bw2 kk)
     | (have hgo := Bw3; clear hgo
        refine wpList_load_byte rfl (.tmp 17) rfl 31 q o_c HL.out.symm (by rw [HL.out]; decide) rfl (HQ.out _) ?_
        have Bw4 := Bw3
        clear Bw3)
     | (have hgo := Bw4; clear hgo
        refine wpList_store_byte rfl (.tmp 20) (.tmp 19) rfl 31 u o_c HL.out.symm HCAP.out (by rw [HL.out]; decide) rfl rfl HUL.out ?_
        intro w5 o_d gk
        have Bw5 := Bw4.grown gk (HGS.out _ Bw4) (by intro k hk; cases hk; exact HGB.out)
        replace r_t2 := gb_rowIs r_t2 gk n_c
        replace f_b0 := HF_b0.out.below Bw5 (Nat.le_refl _)
        rw [← HCB.out] at o_d
        have f_d := o_d.bs
        clear Bw4 gk o_d o_c)
     | (have hgo := Bw5; clear hgo
        go_at_call 86
        refine (strict_yes _ l0 _ Y _ f_d rfl HL.out HYv.out HY.out).mono ?_
        rintro e w7 ⟨rfl, kk⟩
        replace r_t2 := zrb r_t2 kk
        replace f_b0 := zfb f_b0 kk
        replace f_d := zfb f_d kk
        have Bw6 := zbt HGS Bw5 kk
        clear Bw5 kk)
     | (have hgo := Bw6; clear hgo
        refine wpList_alloc_row rfl 51 rfl 4 (u64f fun _ => 0) zeroE ?_
        intro b_t5 w11 lk r_t5 kk
        have n_t2_t5 := zrn r_t2 lk
        have l_t5 := zrl HGS Bw6 lk
        have a_b0_t5 := Bs.away f_b0 lk
        have a_d_t5 := Bs.away f_d lk
        replace r_t2 := zrb r_t2 kk
        replace f_b0 := zfb f_b0 kk
        replace f_d := zfb f_d kk
        have Bw7 := zbt HGS Bw6 kk
        clear Bw6 kk lk)
     | (have hgo := Bw7; clear hgo
        refine wpList_store_as rfl 51 (.tmp 5) (.tmp 24) rfl 4 (ewF Y) arrE r_t5 rfl rfl (by omega) (fun _ _ => rfl) (fun i hi => putN_whole hi) ?_
        intro w12 q gk
        replace r_t2 := gb_rowIs r_t2 gk n_t2_t5
        replace r_t5 := q
        have Bw8 := zbg HGS Bw7 gk l_t5
        replace f_b0 := gb_bs f_b0 gk a_b0_t5
        replace f_d := gb_bs f_d gk a_d_t5
        clear Bw7 gk q)
     | (have hgo := Bw8; clear hgo
        refine wpList_load_cat rfl (.tmp 30) rfl (HC31.out _ Bw8) rfl ?_
        have Bw9 := Bw8
        clear Bw8)
     | (have hgo := Bw9; clear hgo
        refine wpList_load_as rfl 51 (.tmp 5) rfl 4 (ewF Y) arrE r_t5 rfl (by omega) (fun i hi => by rw [Nat.zero_add]) ?_
        have Bw10 := Bw9
        clear Bw9)
     | (have hgo := Bw10; clear hgo
        go_at_call 87
        refine (HRT.out _).mono ?_
        rintro e w21 ⟨rfl, kk⟩
        replace r_t2 := zrb r_t2 kk
        replace r_t5 := zrb r_t5 kk
        replace f_b0 := zfb f_b0 kk
        replace f_d := zfb f_d kk
        have Bw11 := zbt HGS Bw10 kk
        clear Bw10 kk)
     | (have hgo := Bw11; clear hgo
        refine wpList_alloc_row rfl 51 rfl 4 (u64f fun _ => 0) zeroE ?_
        intro b_t8 w25 lk r_t8 kk
        have n_t2_t8 := zrn r_t2 lk
        have n_t5_t8 := zrn r_t5 lk
        have l_t8 := zrl HGS Bw11 lk
        have a_b0_t8 := Bs.away f_b0 lk
        have a_d_t8 := Bs.away f_d lk
        replace r_t2 := zrb r_t2 kk
        replace r_t5 := zrb r_t5 kk
        replace f_b0 := zfb f_b0 kk
        replace f_d := zfb f_d kk
        have Bw12 := zbt HGS Bw11 kk
        clear Bw11 kk lk)
     | (have hgo := Bw12; clear hgo
        refine wpList_store_as rfl 51 (.tmp 8) (.tmp 37) rfl 4 (ewF 0) arrE r_t8 rfl rfl (by omega) (fun _ _ => rfl) (fun i hi => putN_whole hi) ?_
        intro w26 q gk
        replace r_t2 := gb_rowIs r_t2 gk n_t2_t8
        replace r_t5 := gb_rowIs r_t5 gk n_t5_t8
        replace r_t8 := q
        have Bw13 := zbg HGS Bw12 gk l_t8
        replace f_b0 := gb_bs f_b0 gk a_b0_t8
        replace f_d := gb_bs f_d gk a_d_t8
        clear Bw12 gk q)
     | (have hgo := Bw13; clear hgo
        refine wpList_build_arr rfl 53 #[] rfl (arrOf 12 (qF 0 0 0)) ?_ ?_
        · simp only [List.map_toArray, List.map_cons, List.map_nil]; exact builtQ0
        have Bw14 := Bw13
        clear Bw13)
     | (have hgo := Bw14; clear hgo
        refine wpList_store_as rfl 53 (.tmp 2) (.tmp 49) rfl 12 (qF 0 0 0) arrQ r_t2 rfl rfl (by omega) (fun j _ => qF_one _ _ _ j) (fun i hi => putN_whole hi) ?_
        intro w39 q gk
        replace r_t5 := gb_rowIs r_t5 gk (Ne.symm n_t2_t5)
        replace r_t8 := gb_rowIs r_t8 gk (Ne.symm n_t2_t8)
        replace r_t2 := q
        have Bw15 := zbg HGS Bw14 gk l_t2
        replace f_b0 := gb_bs f_b0 gk a_b0_t2
        clear f_d
        clear Bw14 gk q))
   exact ret_cell_as_tmp _ rfl arrQ r_t2 rfl rfl (by omega) (fun _ _ => rfl) rfl ⟨rfl, Bw15⟩
 · have a2 : bits .and .u8 (q : Int) 128 = 128 := a3
   clear a3 hsg2 hx hYv
   clear hq hql hu hcells h0 hl hY
   have Bw0 := Below.refl w.heap.size w
   have HGS : Hid (∀ wq : World, Below w.heap.size w wq → w.heap.size ≤ wq.heap.size) := Lib.hid fun wq h => h.size
   have HF_b0 := HF0
   go_enter Tryz.func39, Tryz.ntmps39
   go_wp2_with (first
     | (have hgo := Bw0; clear hgo
        refine wpList_alloc_row rfl 53 rfl 12 (u64f fun _ => 0) zeroQ ?_
        intro b_t2 w1 lk r_t2 kk
        have l_t2 := zrl HGS Bw0 lk
        have a_b0_t2 := Bs.away f_b0 lk
        replace f_b0 := zfb f_b0 kk
        have Bw1 := zbt HGS Bw0 kk
        clear Bw0 kk lk)
     | (have hgo := Bw1; clear hgo
        refine wpList_rows1 rfl (.tmp 13) rfl f_b0 rfl ?_
        intro v_r14 w3 F_r14 kk
        replace r_t2 := zrb r_t2 kk
        replace f_b0 := zfb f_b0 kk
        have Bw2 := zbt HGS Bw1 kk
        clear Bw1 kk)
     | (have hgo := Bw2; clear hgo
        go_at_call 21
        refine (cat_any _ _ _ F_r14 (by rw [List.flatten_singleton, HL.out]; decide)).mono ?_
        rintro e w4 ⟨v_c, rfl, o_c, kk⟩
        rw [List.flatten_singleton] at o_c
        clear F_r14
        obtain ⟨g, cap, hv, hg, hgs, _, _⟩ := o_c.open_cons (by rw [HL.out]; decide)
        rw [HL.out] at hv
        subst hv
        have n_c : b_t2 ≠ g := Nat.ne_of_lt (Nat.lt_of_lt_of_le (World.rowIs.lt r_t2) hg)
        have HCAP : Hid (32 ≤ cap) := Lib.hid (owns_cap o_c)
        have HGB : Hid (w.heap.size ≤ g) := Lib.hid (Nat.le_trans (HGS.out _ Bw2) hg)
        replace o_c := o_c.lower (HGS.out _ Bw2)
        clear hg hgs
        replace r_t2 := zrb r_t2 kk
        replace f_b0 := zfb f_b0 kk
        have Bw3 := zbt HGS Bw2 kk
        clear Bw2 kk)
     | (have hgo := Bw3; clear hgo
        refine wpList_load_byte rfl (.tmp 17) rfl 31 q o_c HL.out.symm (by rw [HL.out]; decide) rfl (HQ.out _) ?_
        have Bw4 := Bw3
        clear Bw3)
     | (have hgo := Bw4; clear hgo
        refine wpList_store_byte rfl (.tmp 20) (.tmp 19) rfl 31 u o_c HL.out.symm HCAP.out (by rw [HL.out]; decide) rfl rfl HUL.out ?_
        intro w5 o_d gk
        have Bw5 := Bw4.grown gk (HGS.out _ Bw4) (by intro k hk; cases hk; exact HGB.out)
        replace r_t2 := gb_rowIs r_t2 gk n_c
        replace f_b0 := HF_b0.out.below Bw5 (Nat.le_refl _)
        rw [← HCB.out] at o_d
        have f_d := o_d.bs
        clear Bw4 gk o_d o_c)
     | (have hgo := Bw5; clear hgo
        go_at_call 86
        refine (strict_yes _ l0 _ Y _ f_d rfl HL.out HYv.out HY.out).mono ?_
        rintro e w7 ⟨rfl, kk⟩
        replace r_t2 := zrb r_t2 kk
        replace f_b0 := zfb f_b0 kk
        replace f_d := zfb f_d kk
        have Bw6 := zbt HGS Bw5 kk
        clear Bw5 kk)
     | (have hgo := Bw6; clear hgo
        refine wpList_alloc_row rfl 51 rfl 4 (u64f fun _ => 0) zeroE ?_
        intro b_t5 w11 lk r_t5 kk
        have n_t2_t5 := zrn r_t2 lk
        have l_t5 := zrl HGS Bw6 lk
        have a_b0_t5 := Bs.away f_b0 lk
        have a_d_t5 := Bs.away f_d lk
        replace r_t2 := zrb r_t2 kk
        replace f_b0 := zfb f_b0 kk
        replace f_d := zfb f_d kk
        have Bw7 := zbt HGS Bw6 kk
        clear Bw6 kk lk)
     | (have hgo := Bw7; clear hgo
        refine wpList_store_as rfl 51 (.tmp 5) (.tmp 24) rfl 4 (ewF Y) arrE r_t5 rfl rfl (by omega) (fun _ _ => rfl) (fun i hi => putN_whole hi) ?_
        intro w12 q gk
        replace r_t2 := gb_rowIs r_t2 gk n_t2_t5
        replace r_t5 := q
        have Bw8 := zbg HGS Bw7 gk l_t5
        replace f_b0 := gb_bs f_b0 gk a_b0_t5
        replace f_d := gb_bs f_d gk a_d_t5
        clear Bw7 gk q)
     | (have hgo := Bw8; clear hgo
        refine wpList_load_cat rfl (.tmp 30) rfl (HC31.out _ Bw8) rfl ?_
        have Bw9 := Bw8
        clear Bw8)
     | (have hgo := Bw9; clear hgo
        refine wpList_load_as rfl 51 (.tmp 5) rfl 4 (ewF Y) arrE r_t5 rfl (by omega) (fun i hi => by rw [Nat.zero_add]) ?_
        have Bw10 := Bw9
        clear Bw9)
     | (have hgo := Bw10; clear hgo
        go_at_call 87
        refine (HRT.out _).mono ?_
        rintro e w21 ⟨rfl, kk⟩
        replace r_t2 := zrb r_t2 kk
        replace r_t5 := zrb r_t5 kk
        replace f_b0 := zfb f_b0 kk
        replace f_d := zfb f_d kk
        have Bw11 := zbt HGS Bw10 kk
        clear Bw10 kk)
     | (have hgo := Bw11; clear hgo
        refine wpList_alloc_row rfl 51 rfl 4 (u64f fun _ => 0) zeroE ?_
        intro b_t8 w25 lk r_t8 kk
        have n_t2_t8 := zrn r_t2 lk
        have n_t5_t8 := zrn r_t5 lk
        have l_t8 := zrl HGS Bw11 lk
        have a_b0_t8 := Bs.away f_b0 lk
        have a_d_t8 := Bs.away f_d lk
        replace r_t2 := zrb r_t2 kk
        replace r_t5 := zrb r_t5 kk
        replace f_b0 := zfb f_b0 kk
        replace f_d := zfb f_d kk
        have Bw12 := zbt HGS Bw11 kk
        clear Bw11 kk lk)
     | (have hgo := Bw12; clear hgo
        refine wpList_store_as rfl 51 (.tmp 8) (.tmp 37) rfl 4 (ewF 0) arrE r_t8 rfl rfl (by omega) (fun _ _ => rfl) (fun i hi => putN_whole hi) ?_
        intro w26 q gk
        replace r_t2 := gb_rowIs r_t2 gk n_t2_t8
        replace r_t5 := gb_rowIs r_t5 gk n_t5_t8
        replace r_t8 := q
        have Bw13 := zbg HGS Bw12 gk l_t8
        replace f_b0 := gb_bs f_b0 gk a_b0_t8
        replace f_d := gb_bs f_d gk a_d_t8
        clear Bw12 gk q)
     | (have hgo := Bw13; clear hgo
        refine wpList_build_arr rfl 53 #[] rfl (arrOf 12 (qF 0 0 0)) ?_ ?_
        · simp only [List.map_toArray, List.map_cons, List.map_nil]; exact builtQ0
        have Bw14 := Bw13
        clear Bw13)
     | (have hgo := Bw14; clear hgo
        refine wpList_store_as rfl 53 (.tmp 2) (.tmp 49) rfl 12 (qF 0 0 0) arrQ r_t2 rfl rfl (by omega) (fun j _ => qF_one _ _ _ j) (fun i hi => putN_whole hi) ?_
        intro w39 q gk
        replace r_t5 := gb_rowIs r_t5 gk (Ne.symm n_t2_t5)
        replace r_t8 := gb_rowIs r_t8 gk (Ne.symm n_t2_t8)
        replace r_t2 := q
        have Bw15 := zbg HGS Bw14 gk l_t2
        replace f_b0 := gb_bs f_b0 gk a_b0_t2
        clear f_d
        clear Bw14 gk q))
   exact ret_cell_as_tmp _ rfl arrQ r_t2 rfl rfl (by omega) (fun _ _ => rfl) rfl ⟨rfl, Bw15⟩
set_option maxHeartbeats 4000000 in
set_option maxRecDepth 10000 in
theorem qDecode_4 (v0 : Value) (l0 : List UInt8) (w : World) (h0 : Bs w v0 l0) (hl : l0.length = 32) (hY : numL l0 32 % top < p25) (x : Nat) (hx : decX (numL l0 32 % top) = some x) (ho : numL l0 32 / top = 1) (hx0 : x = 0) : Calls Tryz.prog 39 #[v0] w fun e w' => e = .returned (.tuple #[.agg (arrOf 12 (qF 0 0 0)), .int .i64 12]) ∧ Below w.heap.size w w' := by
 have HYL := Lib.hid hY
 obtain ⟨gb, off, c0, rfl, y0, z0, hgb, hcells⟩ := h0.open_n hl (by decide)
 have HL := Lib.hid hl
 have HF0 := Lib.hid h0
 have f_b0 := h0
 obtain ⟨q, hq⟩ := nat_var ((l0.getD 31 0).toNat)
 have hql : q < 256 := by rw [hq]; exact UInt8.toNat_lt _
 have a1 := notand128 q hql
 obtain ⟨u, hu⟩ := nat_var (q % 128)
 rw [← hu] at a1
 have HUL : Hid (u < 256) := Lib.hid (by omega)
 have HQL := Lib.hid hql
 have HSG : Hid (numL l0 32 / top = q / 128) := Lib.hid (by rw [(numL_cut l0 hl).2, ← hq])
 have HCB : Hid (cutB l0 = l0.set 31 (UInt8.ofNat u)) := Lib.hid (by rw [hu, hq]; rfl)
 have HQ : Hid (∀ h : 31 < l0.length, (l0[31]'h).toNat = q) := Lib.hid fun h => by rw [hq, List.getD_eq_getElem?_getD, List.getElem?_eq_getElem h]; rfl
 have HC31 : Hid (∀ W, Below w.heap.size w W → W.cell? ⟨gb, off + 31, none⟩ = some (.int .u8 (q : Int))) := Lib.hid fun W hW => (bs_cell (h0.below hW (Nat.le_refl _)) 31 (by rw [hl]; decide)).trans (by rw [HQ.out])
 obtain ⟨Y, hYv⟩ := nat_var (numL l0 32 % top)
 have HYv : Hid (numL l0 32 % top = Y) := Lib.hid hYv.symm
 have HY : Hid (Y < p25) := Lib.hid (by rw [hYv]; exact HYL.out)
 rw [← hYv] at hx
 have HRT := Lib.hid fun w => bes_some Y x w HY.out hx
 have Hx : Hid (x < p25) := Lib.hid (decX_some HY.out hx).1.1
 have a2 : bits .and .u8 (q : Int) 128 = 128 := by have h := and128 q hql; rw [← HSG.out, ho] at h; exact h
 have HX0 := Lib.hid (decide_eq_true hx0)
 clear hx0
 clear ho
 clear hx hYv
 clear hq hql hu hcells h0 hl hY
 have Bw0 := Below.refl w.heap.size w
 have HGS : Hid (∀ wq : World, Below w.heap.size w wq → w.heap.size ≤ wq.heap.size) := Lib.hid fun wq h => h.size
 have HF_b0 := HF0
 go_enter Tryz.func39, Tryz.ntmps39
 go_wp2_with (first
   | (have hgo := Bw0; clear hgo
      refine wpList_alloc_row rfl 53 rfl 12 (u64f fun _ => 0) zeroQ ?_
      intro b_t2 w1 lk r_t2 kk
      have l_t2 := zrl HGS Bw0 lk
      have a_b0_t2 := Bs.away f_b0 lk
      replace f_b0 := zfb f_b0 kk
      have Bw1 := zbt HGS Bw0 kk
      clear Bw0 kk lk)
   | (have hgo := Bw1; clear hgo
      refine wpList_rows1 rfl (.tmp 13) rfl f_b0 rfl ?_
      intro v_r14 w3 F_r14 kk
      replace r_t2 := zrb r_t2 kk
      replace f_b0 := zfb f_b0 kk
      have Bw2 := zbt HGS Bw1 kk
      clear Bw1 kk)
   | (have hgo := Bw2; clear hgo
      go_at_call 21
      refine (cat_any _ _ _ F_r14 (by rw [List.flatten_singleton, HL.out]; decide)).mono ?_
      rintro e w4 ⟨v_c, rfl, o_c, kk⟩
      rw [List.flatten_singleton] at o_c
      clear F_r14
      obtain ⟨g, cap, hv, hg, hgs, _, _⟩ := o_c.open_cons (by rw [HL.out]; decide)
      rw [HL.out] at hv
      subst hv
      have n_c : b_t2 ≠ g := Nat.ne_of_lt (Nat.lt_of_lt_of_le (World.rowIs.lt r_t2) hg)
      have HCAP : Hid (32 ≤ cap) := Lib.hid (owns_cap o_c)
      have HGB : Hid (w.heap.size ≤ g) := Lib.hid (Nat.le_trans (HGS.out _ Bw2) hg)
      replace o_c := o_c.lower (HGS.out _ Bw2)
      clear hg hgs
      replace r_t2 := zrb r_t2 kk
      replace f_b0 := zfb f_b0 kk
      have Bw3 := zbt HGS Bw2 kk
      clear Bw2 kk)
   | (have hgo := Bw3; clear hgo
      refine wpList_load_byte rfl (.tmp 17) rfl 31 q o_c HL.out.symm (by rw [HL.out]; decide) rfl (HQ.out _) ?_
      have Bw4 := Bw3
      clear Bw3)
   | (have hgo := Bw4; clear hgo
      refine wpList_store_byte rfl (.tmp 20) (.tmp 19) rfl 31 u o_c HL.out.symm HCAP.out (by rw [HL.out]; decide) rfl rfl HUL.out ?_
      intro w5 o_d gk
      have Bw5 := Bw4.grown gk (HGS.out _ Bw4) (by intro k hk; cases hk; exact HGB.out)
      replace r_t2 := gb_rowIs r_t2 gk n_c
      replace f_b0 := HF_b0.out.below Bw5 (Nat.le_refl _)
      rw [← HCB.out] at o_d
      have f_d := o_d.bs
      clear Bw4 gk o_d o_c)
   | (have hgo := Bw5; clear hgo
      go_at_call 86
      refine (strict_yes _ l0 _ Y _ f_d rfl HL.out HYv.out HY.out).mono ?_
      rintro e w7 ⟨rfl, kk⟩
      replace r_t2 := zrb r_t2 kk
      replace f_b0 := zfb f_b0 kk
      replace f_d := zfb f_d kk
      have Bw6 := zbt HGS Bw5 kk
      clear Bw5 kk)
   | (have hgo := Bw6; clear hgo
      refine wpList_alloc_row rfl 51 rfl 4 (u64f fun _ => 0) zeroE ?_
      intro b_t5 w11 lk r_t5 kk
      have n_t2_t5 := zrn r_t2 lk
      have l_t5 := zrl HGS Bw6 lk
      have a_b0_t5 := Bs.away f_b0 lk
      have a_d_t5 := Bs.away f_d lk
      replace r_t2 := zrb r_t2 kk
      replace f_b0 := zfb f_b0 kk
      replace f_d := zfb f_d kk
      have Bw7 := zbt HGS Bw6 kk
      clear Bw6 kk lk)
   | (have hgo := Bw7; clear hgo
      refine wpList_store_as rfl 51 (.tmp 5) (.tmp 24) rfl 4 (ewF Y) arrE r_t5 rfl rfl (by omega) (fun _ _ => rfl) (fun i hi => putN_whole hi) ?_
      intro w12 q gk
      replace r_t2 := gb_rowIs r_t2 gk n_t2_t5
      replace r_t5 := q
      have Bw8 := zbg HGS Bw7 gk l_t5
      replace f_b0 := gb_bs f_b0 gk a_b0_t5
      replace f_d := gb_bs f_d gk a_d_t5
      clear Bw7 gk q)
   | (have hgo := Bw8; clear hgo
      refine wpList_load_cat rfl (.tmp 30) rfl (HC31.out _ Bw8) rfl ?_
      have Bw9 := Bw8
      clear Bw8)
   | (have hgo := Bw9; clear hgo
      refine wpList_load_as rfl 51 (.tmp 5) rfl 4 (ewF Y) arrE r_t5 rfl (by omega) (fun i hi => by rw [Nat.zero_add]) ?_
      have Bw10 := Bw9
      clear Bw9)
   | (have hgo := Bw10; clear hgo
      go_at_call 87
      refine (HRT.out _).mono ?_
      rintro e w21 ⟨rfl, kk⟩
      replace r_t2 := zrb r_t2 kk
      replace r_t5 := zrb r_t5 kk
      replace f_b0 := zfb f_b0 kk
      replace f_d := zfb f_d kk
      have Bw11 := zbt HGS Bw10 kk
      clear Bw10 kk)
   | (have hgo := Bw11; clear hgo
      refine wpList_alloc_row rfl 51 rfl 4 (u64f fun _ => 0) zeroE ?_
      intro b_t8 w25 lk r_t8 kk
      have n_t2_t8 := zrn r_t2 lk
      have n_t5_t8 := zrn r_t5 lk
      have l_t8 := zrl HGS Bw11 lk
      have a_b0_t8 := Bs.away f_b0 lk
      have a_d_t8 := Bs.away f_d lk
      replace r_t2 := zrb r_t2 kk
      replace r_t5 := zrb r_t5 kk
      replace f_b0 := zfb f_b0 kk
      replace f_d := zfb f_d kk
      have Bw12 := zbt HGS Bw11 kk
      clear Bw11 kk lk)
   | (have hgo := Bw12; clear hgo
      refine wpList_store_as rfl 51 (.tmp 8) (.tmp 37) rfl 4 (ewF x) arrE r_t8 rfl rfl (by omega) (fun _ _ => rfl) (fun i hi => putN_whole hi) ?_
      intro w26 q gk
      replace r_t2 := gb_rowIs r_t2 gk n_t2_t8
      replace r_t5 := gb_rowIs r_t5 gk n_t5_t8
      replace r_t8 := q
      have Bw13 := zbg HGS Bw12 gk l_t8
      replace f_b0 := gb_bs f_b0 gk a_b0_t8
      replace f_d := gb_bs f_d gk a_d_t8
      clear Bw12 gk q)
   | (have hgo := Bw13; clear hgo
      refine wpList_load_asg rfl 51 (.tmp 8) rfl 4 (ewF x) arrE r_t8 rfl (by omega) (fun i hi => by rw [Nat.zero_add]) ?_
      have Bw14 := Bw13
      clear Bw13)
   | (have hgo := Bw14; clear hgo
      refine wpList_value_given rfl (.agg (arrOf 4 (ewF 0))) (by rw [exec_mkOp]; exact exec_zeroE _ _) ?_
      have Bw15 := Bw14
      clear Bw14)
   | (have hgo := Bw15; clear hgo
      go_at_call 88
      refine (sameB_any x 0 true _ Hx.out p25_pos HX0.out).mono ?_
      rintro e w35 ⟨rfl, kk⟩
      replace r_t2 := zrb r_t2 kk
      replace r_t5 := zrb r_t5 kk
      replace r_t8 := zrb r_t8 kk
      replace f_b0 := zfb f_b0 kk
      replace f_d := zfb f_d kk
      have Bw16 := zbt HGS Bw15 kk
      clear Bw15 kk)
   | (have hgo := Bw16; clear hgo
      refine wpList_build_arr rfl 53 #[] rfl (arrOf 12 (qF 0 0 0)) ?_ ?_
      · simp only [List.map_toArray, List.map_cons, List.map_nil]; exact builtQ0
      have Bw17 := Bw16
      clear Bw16)
   | (have hgo := Bw17; clear hgo
      refine wpList_store_as rfl 53 (.tmp 2) (.tmp 49) rfl 12 (qF 0 0 0) arrQ r_t2 rfl rfl (by omega) (fun j _ => qF_one _ _ _ j) (fun i hi => putN_whole hi) ?_
      intro w39 q gk
      replace r_t5 := gb_rowIs r_t5 gk (Ne.symm n_t2_t5)
      replace r_t8 := gb_rowIs r_t8 gk (Ne.symm n_t2_t8)
      replace r_t2 := q
      have Bw18 := zbg HGS Bw17 gk l_t2
      replace f_b0 := gb_bs f_b0 gk a_b0_t2
      clear f_d
      clear Bw17 gk q))
 exact ret_cell_as_tmp _ rfl arrQ r_t2 rfl rfl (by omega) (fun _ _ => rfl) rfl ⟨rfl, Bw18⟩
set_option maxHeartbeats 4000000 in
set_option maxRecDepth 10000 in
theorem qDecode_5 (v0 : Value) (l0 : List UInt8) (w : World) (h0 : Bs w v0 l0) (hl : l0.length = 32) (hY : numL l0 32 % top < p25) (x : Nat) (hx : decX (numL l0 32 % top) = some x) (ho : numL l0 32 / top = 0) : Calls Tryz.prog 39 #[v0] w fun e w' => e = .returned (.tuple #[.agg (arrOf 12 (qF x (numL l0 32 % top) 1)), .int .i64 0]) ∧ Below w.heap.size w w' := by
 have HYL := Lib.hid hY
 obtain ⟨gb, off, c0, rfl, y0, z0, hgb, hcells⟩ := h0.open_n hl (by decide)
 have HL := Lib.hid hl
 have HF0 := Lib.hid h0
 have f_b0 := h0
 obtain ⟨q, hq⟩ := nat_var ((l0.getD 31 0).toNat)
 have hql : q < 256 := by rw [hq]; exact UInt8.toNat_lt _
 have a1 := notand128 q hql
 obtain ⟨u, hu⟩ := nat_var (q % 128)
 rw [← hu] at a1
 have HUL : Hid (u < 256) := Lib.hid (by omega)
 have HQL := Lib.hid hql
 have HSG : Hid (numL l0 32 / top = q / 128) := Lib.hid (by rw [(numL_cut l0 hl).2, ← hq])
 have HCB : Hid (cutB l0 = l0.set 31 (UInt8.ofNat u)) := Lib.hid (by rw [hu, hq]; rfl)
 have HQ : Hid (∀ h : 31 < l0.length, (l0[31]'h).toNat = q) := Lib.hid fun h => by rw [hq, List.getD_eq_getElem?_getD, List.getElem?_eq_getElem h]; rfl
 have HC31 : Hid (∀ W, Below w.heap.size w W → W.cell? ⟨gb, off + 31, none⟩ = some (.int .u8 (q : Int))) := Lib.hid fun W hW => (bs_cell (h0.below hW (Nat.le_refl _)) 31 (by rw [hl]; decide)).trans (by rw [HQ.out])
 obtain ⟨Y, hYv⟩ := nat_var (numL l0 32 % top)
 have HYv : Hid (numL l0 32 % top = Y) := Lib.hid hYv.symm
 have HY : Hid (Y < p25) := Lib.hid (by rw [hYv]; exact HYL.out)
 rw [← hYv] at hx
 have HRT := Lib.hid fun w => bes_some Y x w HY.out hx
 have Hx : Hid (x < p25) := Lib.hid (decX_some HY.out hx).1.1
 have a2 : bits .and .u8 (q : Int) 128 = 0 := by have h := and128 q hql; rw [← HSG.out, ho] at h; exact h
 clear ho
 clear hx hYv
 clear hq hql hu hcells h0 hl hY
 have Bw0 := Below.refl w.heap.size w
 have HGS : Hid (∀ wq : World, Below w.heap.size w wq → w.heap.size ≤ wq.heap.size) := Lib.hid fun wq h => h.size
 have HF_b0 := HF0
 go_enter Tryz.func39, Tryz.ntmps39
 go_wp2_with (first
   | (have hgo := Bw0; clear hgo
      refine wpList_alloc_row rfl 53 rfl 12 (u64f fun _ => 0) zeroQ ?_
      intro b_t2 w1 lk r_t2 kk
      have l_t2 := zrl HGS Bw0 lk
      have a_b0_t2 := Bs.away f_b0 lk
      replace f_b0 := zfb f_b0 kk
      have Bw1 := zbt HGS Bw0 kk
      clear Bw0 kk lk)
   | (have hgo := Bw1; clear hgo
      refine wpList_rows1 rfl (.tmp 13) rfl f_b0 rfl ?_
      intro v_r14 w3 F_r14 kk
      replace r_t2 := zrb r_t2 kk
      replace f_b0 := zfb f_b0 kk
      have Bw2 := zbt HGS Bw1 kk
      clear Bw1 kk)
   | (have hgo := Bw2; clear hgo
      go_at_call 21
      refine (cat_any _ _ _ F_r14 (by rw [List.flatten_singleton, HL.out]; decide)).mono ?_
      rintro e w4 ⟨v_c, rfl, o_c, kk⟩
      rw [List.flatten_singleton] at o_c
      clear F_r14
      obtain ⟨g, cap, hv, hg, hgs, _, _⟩ := o_c.open_cons (by rw [HL.out]; decide)
      rw [HL.out] at hv
      subst hv
      have n_c : b_t2 ≠ g := Nat.ne_of_lt (Nat.lt_of_lt_of_le (World.rowIs.lt r_t2) hg)
      have HCAP : Hid (32 ≤ cap) := Lib.hid (owns_cap o_c)
      have HGB : Hid (w.heap.size ≤ g) := Lib.hid (Nat.le_trans (HGS.out _ Bw2) hg)
      replace o_c := o_c.lower (HGS.out _ Bw2)
      clear hg hgs
      replace r_t2 := zrb r_t2 kk
      replace f_b0 := zfb f_b0 kk
      have Bw3 := zbt HGS Bw2 kk
      clear Bw2 kk)
   | (have hgo := Bw3; clear hgo
      refine wpList_load_byte rfl (.tmp 17) rfl 31 q o_c HL.out.symm (by rw [HL.out]; decide) rfl (HQ.out _) ?_
      have Bw4 := Bw3
      clear Bw3)
   | (have hgo := Bw4; clear hgo
      refine wpList_store_byte rfl (.tmp 20) (.tmp 19) rfl 31 u o_c HL.out.symm HCAP.out (by rw [HL.out]; decide) rfl rfl HUL.out ?_
      intro w5 o_d gk
      have Bw5 := Bw4.grown gk (HGS.out _ Bw4) (by intro k hk; cases hk; exact HGB.out)
      replace r_t2 := gb_rowIs r_t2 gk n_c
      replace f_b0 := HF_b0.out.below Bw5 (Nat.le_refl _)
      rw [← HCB.out] at o_d
      have f_d := o_d.bs
      clear Bw4 gk o_d o_c)
   | (have hgo := Bw5; clear hgo
      go_at_call 86
      refine (strict_yes _ l0 _ Y _ f_d rfl HL.out HYv.out HY.out).mono ?_
      rintro e w7 ⟨rfl, kk⟩
      replace r_t2 := zrb r_t2 kk
      replace f_b0 := zfb f_b0 kk
      replace f_d := zfb f_d kk
      have Bw6 := zbt HGS Bw5 kk
      clear Bw5 kk)
   | (have hgo := Bw6; clear hgo
      refine wpList_alloc_row rfl 51 rfl 4 (u64f fun _ => 0) zeroE ?_
      intro b_t5 w11 lk r_t5 kk
      have n_t2_t5 := zrn r_t2 lk
      have l_t5 := zrl HGS Bw6 lk
      have a_b0_t5 := Bs.away f_b0 lk
      have a_d_t5 := Bs.away f_d lk
      replace r_t2 := zrb r_t2 kk
      replace f_b0 := zfb f_b0 kk
      replace f_d := zfb f_d kk
      have Bw7 := zbt HGS Bw6 kk
      clear Bw6 kk lk)
   | (have hgo := Bw7; clear hgo
      refine wpList_store_as rfl 51 (.tmp 5) (.tmp 24) rfl 4 (ewF Y) arrE r_t5 rfl rfl (by omega) (fun _ _ => rfl) (fun i hi => putN_whole hi) ?_
      intro w12 q gk
      replace r_t2 := gb_rowIs r_t2 gk n_t2_t5
      replace r_t5 := q
      have Bw8 := zbg HGS Bw7 gk l_t5
      replace f_b0 := gb_bs f_b0 gk a_b0_t5
      replace f_d := gb_bs f_d gk a_d_t5
      clear Bw7 gk q)
   | (have hgo := Bw8; clear hgo
      refine wpList_load_cat rfl (.tmp 30) rfl (HC31.out _ Bw8) rfl ?_
      have Bw9 := Bw8
      clear Bw8)
   | (have hgo := Bw9; clear hgo
      refine wpList_load_as rfl 51 (.tmp 5) rfl 4 (ewF Y) arrE r_t5 rfl (by omega) (fun i hi => by rw [Nat.zero_add]) ?_
      have Bw10 := Bw9
      clear Bw9)
   | (have hgo := Bw10; clear hgo
      go_at_call 87
      refine (HRT.out _).mono ?_
      rintro e w21 ⟨rfl, kk⟩
      replace r_t2 := zrb r_t2 kk
      replace r_t5 := zrb r_t5 kk
      replace f_b0 := zfb f_b0 kk
      replace f_d := zfb f_d kk
      have Bw11 := zbt HGS Bw10 kk
      clear Bw10 kk)
   | (have hgo := Bw11; clear hgo
      refine wpList_alloc_row rfl 51 rfl 4 (u64f fun _ => 0) zeroE ?_
      intro b_t8 w25 lk r_t8 kk
      have n_t2_t8 := zrn r_t2 lk
      have n_t5_t8 := zrn r_t5 lk
      have l_t8 := zrl HGS Bw11 lk
      have a_b0_t8 := Bs.away f_b0 lk
      have a_d_t8 := Bs.away f_d lk
      replace r_t2 := zrb r_t2 kk
      replace r_t5 := zrb r_t5 kk
      replace f_b0 := zfb f_b0 kk
      replace f_d := zfb f_d kk
      have Bw12 := zbt HGS Bw11 kk
      clear Bw11 kk lk)
   | (have hgo := Bw12; clear hgo
      refine wpList_store_as rfl 51 (.tmp 8) (.tmp 37) rfl 4 (ewF x) arrE r_t8 rfl rfl (by omega) (fun _ _ => rfl) (fun i hi => putN_whole hi) ?_
      intro w26 q gk
      replace r_t2 := gb_rowIs r_t2 gk n_t2_t8
      replace r_t5 := gb_rowIs r_t5 gk n_t5_t8
      replace r_t8 := q
      have Bw13 := zbg HGS Bw12 gk l_t8
      replace f_b0 := gb_bs f_b0 gk a_b0_t8
      replace f_d := gb_bs f_d gk a_d_t8
      clear Bw12 gk q))
 clear f_d f_b0
 go_wp2
 have Bw14 := Bw13.drew
 replace r_t2 := World.rowIs.drew r_t2
 replace r_t5 := World.rowIs.drew r_t5
 replace r_t8 := World.rowIs.drew r_t8
 clear Bw13
 refine zpo [b_t2] (.rd 0 (.rd 1 (.rd 3 (.rd 5 .done)))) #[true, true, false, true, false, true, false, false, false, false] [2, 4, 6, 7, 8, 9] [some 52, some 54, some 56, some 57, none, some 3] [[], [0], [1], [1, 2], [0, 1, 2, 3], [0, 1, 2, 3, 4]] [(0, []), (1, []), (2, [1]), (3, []), (4, [0, 2, 3, 2]), (5, []), (6, [4]), (7, [4, 5, 6]), (8, [7, 6, 0, 1, 2, 3, 4, 5, 6, 7]), (9, [8, 0, 1, 2, 3, 4, 5, 6, 7, 8])] 43 ?_
 refine zmv (.bool false) rfl rfl rfl rfl rfl ?_
 simp only [Act.put, zA, zB, zC]
 refine zld (ewF x) arrE r_t8 (cont1 (Ne.symm n_t2_t8)) (fun i hi => by rw [Nat.zero_add]) rfl rfl rfl rfl rfl (by omega) ?_
 refine zld (ewF x) arrE r_t8 (cont1 (Ne.symm n_t2_t8)) (fun i hi => by rw [Nat.zero_add]) rfl rfl rfl rfl rfl (by omega) ?_
 refine zld (ewF Y) arrE r_t5 (cont1 (Ne.symm n_t2_t5)) (fun i hi => by rw [Nat.zero_add]) rfl rfl rfl rfl rfl (by omega) ?_
 simp only [Act.put, zA, zB, zC]
 refine lintz_leaf ?_
 refine po_start [.val (.agg (arrOf 4 (ewF (oppP x)))), .val (.agg (arrOf 4 (ewF x))), .val (.agg (arrOf 4 (ewF 1))), .val (.agg (arrOf 12 (qF x Y 1))), .nil, .val ((.int .i64 0))] [⟨b_t2, 53, 12, (u64f fun _ => 0), 4, (qF x Y 1)⟩] (fun i hi => by obtain rfl : i = 0 := by { have h9 : i < 1 := hi; omega }; exact r_t2) (fun HWF m gz wa p az hp hm hmp hcl hdn hE hJ hS hO => ?_) (fun gz wa hE hJ => ?_)
 · rcases (show p = 0 ∨ p = 1 ∨ p = 2 ∨ p = 3 ∨ p = 4 ∨ p = 5 by have h9 : p < 6 := hp; omega) with rfl | rfl | rfl | rfl | rfl | rfl
   · have e51 : az.eval (.tmp 51) = .agg (arrOf 4 (ewF x)) := hO 51 rfl
     exact po_k HWF hJ hE (neg_any x _ Hx.out) rfl rfl rfl rfl rfl rfl (ar1 e51)
   · have e50 : az.eval (.tmp 50) = .bool false := hO 50 rfl
     have e53 : az.eval (.tmp 53) = .agg (arrOf 4 (ewF x)) := hO 53 rfl
     exact po_k HWF hJ hE (pick_to false (oppP x) x _) rfl rfl rfl rfl rfl rfl (ar3 e50 (po_e hS hdn hJ 0 52 rfl rfl rfl rfl) e53)
   · exact po_k HWF hJ hE (small_any 1 _ (by decide)) rfl rfl rfl rfl rfl rfl (ar1 rfl)
   · have e54 := po_e hS hdn hJ 1 54 rfl rfl rfl rfl
     have e55 : az.eval (.tmp 55) = .agg (arrOf 4 (ewF Y)) := hO 55 rfl
     have e56 := po_e hS hdn hJ 2 56 rfl rfl rfl rfl
     exact po_p _ HWF hJ hE rfl rfl rfl rfl rfl rfl rfl (exec_build_as _ _ _ (by simp only [List.map_toArray, List.map_cons, List.map_nil, e54, e55, e56]; exact builtQ _ _ _))
   · exact po_storeOld 0 (.tmp 2) (.tmp 57) 53 b_t2 12 _ (by rw [hm]; exact hp) hmp hJ rfl (show 0 < 1 by decide) rfl rfl rfl rfl rfl (World.rowIs.lt r_t2) (by simp) (by kernel_rfl) po_ne1 hE rfl rfl rfl rfl rfl (hO 2 rfl) (po_e hS hdn hJ 3 57 rfl rfl rfl rfl) arrQ (fun j _ => qF_one _ _ _ j)
   · exact po_p _ HWF hJ hE rfl rfl rfl rfl rfl rfl rfl (x_assign rfl)
 · rw [putO_true _ _ _ _ _ rfl]
   simp only [putA, Nat.zero_add, Nat.reduceAdd]
   rw [hJ.tt 0 rfl, hJ.tt 1 rfl, hJ.tt 2 rfl, hJ.tt 3 rfl, hJ.tt 5 rfl]
   simp only [Act.put, zA, zB, zC]
   refine po_end ?_
   replace r_t2 : wa.rowIs b_t2 53 12 (qF x Y 1) := hJ.old 0 (show 0 < 1 by decide) (show 4 < 6 by decide)
   replace r_t5 := Keep.row hE r_t5 (cont1 (Ne.symm n_t2_t5))
   replace r_t8 := Keep.row hE r_t8 (cont1 (Ne.symm n_t2_t8))
   have Bw15 := hE.below Bw14 (HGS.out _ Bw14) (keep_all1 l_t2)
   clear Bw14 hE hJ 
   go_wp2
   exact ret_cell_as_tmp _ rfl arrQ r_t2 rfl rfl (by omega) (fun _ _ => rfl) rfl ⟨by rw [HYv.out]; rfl, Bw15⟩
set_option maxHeartbeats 4000000 in
set_option maxRecDepth 10000 in
theorem qDecode_6 (v0 : Value) (l0 : List UInt8) (w : World) (h0 : Bs w v0 l0) (hl : l0.length = 32) (hY : numL l0 32 % top < p25) (x : Nat) (hx : decX (numL l0 32 % top) = some x) (ho : numL l0 32 / top = 1) (hx0 : x ≠ 0) : Calls Tryz.prog 39 #[v0] w fun e w' => e = .returned (.tuple #[.agg (arrOf 12 (qF (oppP x) (numL l0 32 % top) 1)), .int .i64 0]) ∧ Below w.heap.size w w' := by
 have HYL := Lib.hid hY
 obtain ⟨gb, off, c0, rfl, y0, z0, hgb, hcells⟩ := h0.open_n hl (by decide)
 have HL := Lib.hid hl
 have HF0 := Lib.hid h0
 have f_b0 := h0
 obtain ⟨q, hq⟩ := nat_var ((l0.getD 31 0).toNat)
 have hql : q < 256 := by rw [hq]; exact UInt8.toNat_lt _
 have a1 := notand128 q hql
 obtain ⟨u, hu⟩ := nat_var (q % 128)
 rw [← hu] at a1
 have HUL : Hid (u < 256) := Lib.hid (by omega)
 have HQL := Lib.hid hql
 have HSG : Hid (numL l0 32 / top = q / 128) := Lib.hid (by rw [(numL_cut l0 hl).2, ← hq])
 have HCB : Hid (cutB l0 = l0.set 31 (UInt8.ofNat u)) := Lib.hid (by rw [hu, hq]; rfl)
 have HQ : Hid (∀ h : 31 < l0.length, (l0[31]'h).toNat = q) := Lib.hid fun h => by rw [hq, List.getD_eq_getElem?_getD, List.getElem?_eq_getElem h]; rfl
 have HC31 : Hid (∀ W, Below w.heap.size w W → W.cell? ⟨gb, off + 31, none⟩ = some (.int .u8 (q : Int))) := Lib.hid fun W hW => (bs_cell (h0.below hW (Nat.le_refl _)) 31 (by rw [hl]; decide)).trans (by rw [HQ.out])
 obtain ⟨Y, hYv⟩ := nat_var (numL l0 32 % top)
 have HYv : Hid (numL l0 32 % top = Y) := Lib.hid hYv.symm
 have HY : Hid (Y < p25) := Lib.hid (by rw [hYv]; exact HYL.out)
 rw [← hYv] at hx
 have HRT := Lib.hid fun w => bes_some Y x w HY.out hx
 have Hx : Hid (x < p25) := Lib.hid (decX_some HY.out hx).1.1
 have a2 : bits .and .u8 (q : Int) 128 = 128 := by have h := and128 q hql; rw [← HSG.out, ho] at h; exact h
 have HX0 := Lib.hid (decide_eq_false hx0)
 clear hx0
 clear ho
 clear hx hYv
 clear hq hql hu hcells h0 hl hY
 have Bw0 := Below.refl w.heap.size w
 have HGS : Hid (∀ wq : World, Below w.heap.size w wq → w.heap.size ≤ wq.heap.size) := Lib.hid fun wq h => h.size
 have HF_b0 := HF0
 go_enter Tryz.func39, Tryz.ntmps39
 go_wp2_with (first
   | (have hgo := Bw0; clear hgo
      refine wpList_alloc_row rfl 53 rfl 12 (u64f fun _ => 0) zeroQ ?_
      intro b_t2 w1 lk r_t2 kk
      have l_t2 := zrl HGS Bw0 lk
      have a_b0_t2 := Bs.away f_b0 lk
      replace f_b0 := zfb f_b0 kk
      have Bw1 := zbt HGS Bw0 kk
      clear Bw0 kk lk)
   | (have hgo := Bw1; clear hgo
      refine wpList_rows1 rfl (.tmp 13) rfl f_b0 rfl ?_
      intro v_r14 w3 F_r14 kk
      replace r_t2 := zrb r_t2 kk
      replace f_b0 := zfb f_b0 kk
      have Bw2 := zbt HGS Bw1 kk
      clear Bw1 kk)
   | (have hgo := Bw2; clear hgo
      go_at_call 21
      refine (cat_any _ _ _ F_r14 (by rw [List.flatten_singleton, HL.out]; decide)).mono ?_
      rintro e w4 ⟨v_c, rfl, o_c, kk⟩
      rw [List.flatten_singleton] at o_c
      clear F_r14
      obtain ⟨g, cap, hv, hg, hgs, _, _⟩ := o_c.open_cons (by rw [HL.out]; decide)
      rw [HL.out] at hv
      subst hv
      have n_c : b_t2 ≠ g := Nat.ne_of_lt (Nat.lt_of_lt_of_le (World.rowIs.lt r_t2) hg)
      have HCAP : Hid (32 ≤ cap) := Lib.hid (owns_cap o_c)
      have HGB : Hid (w.heap.size ≤ g) := Lib.hid (Nat.le_trans (HGS.out _ Bw2) hg)
      replace o_c := o_c.lower (HGS.out _ Bw2)
      clear hg hgs
      replace r_t2 := zrb r_t2 kk
      replace f_b0 := zfb f_b0 kk
      have Bw3 := zbt HGS Bw2 kk
      clear Bw2 kk)
   | (have hgo := Bw3; clear hgo
      refine wpList_load_byte rfl (.tmp 17) rfl 31 q o_c HL.out.symm (by rw [HL.out]; decide) rfl (HQ.out _) ?_
      have Bw4 := Bw3
      clear Bw3)
   | (have hgo := Bw4; clear hgo
      refine wpList_store_byte rfl (.tmp 20) (.tmp 19) rfl 31 u o_c HL.out.symm HCAP.out (by rw [HL.out]; decide) rfl rfl HUL.out ?_
      intro w5 o_d gk
      have Bw5 := Bw4.grown gk (HGS.out _ Bw4) (by intro k hk; cases hk; exact HGB.out)
      replace r_t2 := gb_rowIs r_t2 gk n_c
      replace f_b0 := HF_b0.out.below Bw5 (Nat.le_refl _)
      rw [← HCB.out] at o_d
      have f_d := o_d.bs
      clear Bw4 gk o_d o_c)
   | (have hgo := Bw5; clear hgo
      go_at_call 86
      refine (strict_yes _ l0 _ Y _ f_d rfl HL.out HYv.out HY.out).mono ?_
      rintro e w7 ⟨rfl, kk⟩
      replace r_t2 := zrb r_t2 kk
      replace f_b0 := zfb f_b0 kk
      replace f_d := zfb f_d kk
      have Bw6 := zbt HGS Bw5 kk
      clear Bw5 kk)
   | (have hgo := Bw6; clear hgo
      refine wpList_alloc_row rfl 51 rfl 4 (u64f fun _ => 0) zeroE ?_
      intro b_t5 w11 lk r_t5 kk
      have n_t2_t5 := zrn r_t2 lk
      have l_t5 := zrl HGS Bw6 lk
      have a_b0_t5 := Bs.away f_b0 lk
      have a_d_t5 := Bs.away f_d lk
      replace r_t2 := zrb r_t2 kk
      replace f_b0 := zfb f_b0 kk
      replace f_d := zfb f_d kk
      have Bw7 := zbt HGS Bw6 kk
      clear Bw6 kk lk)
   | (have hgo := Bw7; clear hgo
      refine wpList_store_as rfl 51 (.tmp 5) (.tmp 24) rfl 4 (ewF Y) arrE r_t5 rfl rfl (by omega) (fun _ _ => rfl) (fun i hi => putN_whole hi) ?_
      intro w12 q gk
      replace r_t2 := gb_rowIs r_t2 gk n_t2_t5
      replace r_t5 := q
      have Bw8 := zbg HGS Bw7 gk l_t5
      replace f_b0 := gb_bs f_b0 gk a_b0_t5
      replace f_d := gb_bs f_d gk a_d_t5
      clear Bw7 gk q)
   | (have hgo := Bw8; clear hgo
      refine wpList_load_cat rfl (.tmp 30) rfl (HC31.out _ Bw8) rfl ?_
      have Bw9 := Bw8
      clear Bw8)
   | (have hgo := Bw9; clear hgo
      refine wpList_load_as rfl 51 (.tmp 5) rfl 4 (ewF Y) arrE r_t5 rfl (by omega) (fun i hi => by rw [Nat.zero_add]) ?_
      have Bw10 := Bw9
      clear Bw9)
   | (have hgo := Bw10; clear hgo
      go_at_call 87
      refine (HRT.out _).mono ?_
      rintro e w21 ⟨rfl, kk⟩
      replace r_t2 := zrb r_t2 kk
      replace r_t5 := zrb r_t5 kk
      replace f_b0 := zfb f_b0 kk
      replace f_d := zfb f_d kk
      have Bw11 := zbt HGS Bw10 kk
      clear Bw10 kk)
   | (have hgo := Bw11; clear hgo
      refine wpList_alloc_row rfl 51 rfl 4 (u64f fun _ => 0) zeroE ?_
      intro b_t8 w25 lk r_t8 kk
      have n_t2_t8 := zrn r_t2 lk
      have n_t5_t8 := zrn r_t5 lk
      have l_t8 := zrl HGS Bw11 lk
      have a_b0_t8 := Bs.away f_b0 lk
      have a_d_t8 := Bs.away f_d lk
      replace r_t2 := zrb r_t2 kk
      replace r_t5 := zrb r_t5 kk
      replace f_b0 := zfb f_b0 kk
      replace f_d := zfb f_d kk
      have Bw12 := zbt HGS Bw11 kk
      clear Bw11 kk lk)
   | (have hgo := Bw12; clear hgo
      refine wpList_store_as rfl 51 (.tmp 8) (.tmp 37) rfl 4 (ewF x) arrE r_t8 rfl rfl (by omega) (fun _ _ => rfl) (fun i hi => putN_whole hi) ?_
      intro w26 q gk
      replace r_t2 := gb_rowIs r_t2 gk n_t2_t8
      replace r_t5 := gb_rowIs r_t5 gk n_t5_t8
      replace r_t8 := q
      have Bw13 := zbg HGS Bw12 gk l_t8
      replace f_b0 := gb_bs f_b0 gk a_b0_t8
      replace f_d := gb_bs f_d gk a_d_t8
      clear Bw12 gk q)
   | (have hgo := Bw13; clear hgo
      refine wpList_load_asg rfl 51 (.tmp 8) rfl 4 (ewF x) arrE r_t8 rfl (by omega) (fun i hi => by rw [Nat.zero_add]) ?_
      have Bw14 := Bw13
      clear Bw13)
   | (have hgo := Bw14; clear hgo
      refine wpList_value_given rfl (.agg (arrOf 4 (ewF 0))) (by rw [exec_mkOp]; exact exec_zeroE _ _) ?_
      have Bw15 := Bw14
      clear Bw14)
   | (have hgo := Bw15; clear hgo
      go_at_call 88
      refine (sameB_any x 0 false _ Hx.out p25_pos HX0.out).mono ?_
      rintro e w35 ⟨rfl, kk⟩
      replace r_t2 := zrb r_t2 kk
      replace r_t5 := zrb r_t5 kk
      replace r_t8 := zrb r_t8 kk
      replace f_b0 := zfb f_b0 kk
      replace f_d := zfb f_d kk
      have Bw16 := zbt HGS Bw15 kk
      clear Bw15 kk))
 clear f_d f_b0
 go_wp2
 have Bw17 := Bw16.drew
 replace r_t2 := World.rowIs.drew r_t2
 replace r_t5 := World.rowIs.drew r_t5
 replace r_t8 := World.rowIs.drew r_t8
 clear Bw16
 refine zpo [b_t2] (.rd 0 (.rd 1 (.rd 3 (.rd 5 .done)))) #[true, true, false, true, false, true, false, false, false, false] [2, 4, 6, 7, 8, 9] [some 52, some 54, some 56, some 57, none, some 3] [[], [0], [1], [1, 2], [0, 1, 2, 3], [0, 1, 2, 3, 4]] [(0, []), (1, []), (2, [1]), (3, []), (4, [0, 2, 3, 2]), (5, []), (6, [4]), (7, [4, 5, 6]), (8, [7, 6, 0, 1, 2, 3, 4, 5, 6, 7]), (9, [8, 0, 1, 2, 3, 4, 5, 6, 7, 8])] 43 ?_
 refine zmv (.bool true) rfl rfl rfl rfl rfl ?_
 simp only [Act.put, zA, zB, zC]
 refine zld (ewF x) arrE r_t8 (cont1 (Ne.symm n_t2_t8)) (fun i hi => by rw [Nat.zero_add]) rfl rfl rfl rfl rfl (by omega) ?_
 refine zld (ewF x) arrE r_t8 (cont1 (Ne.symm n_t2_t8)) (fun i hi => by rw [Nat.zero_add]) rfl rfl rfl rfl rfl (by omega) ?_
 refine zld (ewF Y) arrE r_t5 (cont1 (Ne.symm n_t2_t5)) (fun i hi => by rw [Nat.zero_add]) rfl rfl rfl rfl rfl (by omega) ?_
 simp only [Act.put, zA, zB, zC]
 refine lintz_leaf ?_
 refine po_start [.val (.agg (arrOf 4 (ewF (oppP x)))), .val (.agg (arrOf 4 (ewF (oppP x)))), .val (.agg (arrOf 4 (ewF 1))), .val (.agg (arrOf 12 (qF (oppP x) Y 1))), .nil, .val ((.int .i64 0))] [⟨b_t2, 53, 12, (u64f fun _ => 0), 4, (qF (oppP x) Y 1)⟩] (fun i hi => by obtain rfl : i = 0 := by { have h9 : i < 1 := hi; omega }; exact r_t2) (fun HWF m gz wa p az hp hm hmp hcl hdn hE hJ hS hO => ?_) (fun gz wa hE hJ => ?_)
 · rcases (show p = 0 ∨ p = 1 ∨ p = 2 ∨ p = 3 ∨ p = 4 ∨ p = 5 by have h9 : p < 6 := hp; omega) with rfl | rfl | rfl | rfl | rfl | rfl
   · have e51 : az.eval (.tmp 51) = .agg (arrOf 4 (ewF x)) := hO 51 rfl
     exact po_k HWF hJ hE (neg_any x _ Hx.out) rfl rfl rfl rfl rfl rfl (ar1 e51)
   · have e50 : az.eval (.tmp 50) = .bool true := hO 50 rfl
     have e53 : az.eval (.tmp 53) = .agg (arrOf 4 (ewF x)) := hO 53 rfl
     exact po_k HWF hJ hE (pick_to true (oppP x) x _) rfl rfl rfl rfl rfl rfl (ar3 e50 (po_e hS hdn hJ 0 52 rfl rfl rfl rfl) e53)
   · exact po_k HWF hJ hE (small_any 1 _ (by decide)) rfl rfl rfl rfl rfl rfl (ar1 rfl)
   · have e54 := po_e hS hdn hJ 1 54 rfl rfl rfl rfl
     have e55 : az.eval (.tmp 55) = .agg (arrOf 4 (ewF Y)) := hO 55 rfl
     have e56 := po_e hS hdn hJ 2 56 rfl rfl rfl rfl
     exact po_p _ HWF hJ hE rfl rfl rfl rfl rfl rfl rfl (exec_build_as _ _ _ (by simp only [List.map_toArray, List.map_cons, List.map_nil, e54, e55, e56]; exact builtQ _ _ _))
   · exact po_storeOld 0 (.tmp 2) (.tmp 57) 53 b_t2 12 _ (by rw [hm]; exact hp) hmp hJ rfl (show 0 < 1 by decide) rfl rfl rfl rfl rfl (World.rowIs.lt r_t2) (by simp) (by kernel_rfl) po_ne1 hE rfl rfl rfl rfl rfl (hO 2 rfl) (po_e hS hdn hJ 3 57 rfl rfl rfl rfl) arrQ (fun j _ => qF_one _ _ _ j)
   · exact po_p _ HWF hJ hE rfl rfl rfl rfl rfl rfl rfl (x_assign rfl)
 · rw [putO_true _ _ _ _ _ rfl]
   simp only [putA, Nat.zero_add, Nat.reduceAdd]
   rw [hJ.tt 0 rfl, hJ.tt 1 rfl, hJ.tt 2 rfl, hJ.tt 3 rfl, hJ.tt 5 rfl]
   simp only [Act.put, zA, zB, zC]
   refine po_end ?_
   replace r_t2 : wa.rowIs b_t2 53 12 (qF (oppP x) Y 1) := hJ.old 0 (show 0 < 1 by decide) (show 4 < 6 by decide)
   replace r_t5 := Keep.row hE r_t5 (cont1 (Ne.symm n_t2_t5))
   replace r_t8 := Keep.row hE r_t8 (cont1 (Ne.symm n_t2_t8))
   have Bw18 := hE.below Bw17 (HGS.out _ Bw17) (keep_all1 l_t2)
   clear Bw17 hE hJ 
   go_wp2
   exact ret_cell_as_tmp _ rfl arrQ r_t2 rfl rfl (by omega) (fun _ _ => rfl) rfl ⟨by rw [HYv.out]; rfl, Bw18⟩
theorem qTDecode_any (v : Value) (l : List UInt8) (w : World) (h : Bs w v l) : Calls Tryz.prog 39 #[v] w fun e w' => e = .returned (.tuple #[.agg (arrOf 12 (qT (eT l))), .int .i64 (decE l)]) ∧ Below w.heap.size w w' := by
 by_cases hl : l.length = 32
 · by_cases hY : numL l 32 % top < p25
   · cases hx : decX (numL l 32 % top) with
     | none =>
       have e : decN l = none := by unfold decN; rw [if_pos ⟨hl, hY⟩, hx]; rfl
       unfold eT decE
       rw [e]
       exact qDecode_3 v l w h hl hY hx
     | some x =>
       have hs : numL l 32 / top < 2 := by
         rw [(numL_cut l hl).2]
         exact Nat.div_lt_of_lt_mul (UInt8.toNat_lt _)
       by_cases ho : numL l 32 / top = 1
       · by_cases hx0 : x = 0
         · have e : decN l = none := by unfold decN; rw [if_pos ⟨hl, hY⟩, hx, Option.bind_some, if_pos ⟨ho, hx0⟩]
           unfold eT decE
           rw [e]
           exact qDecode_4 v l w h hl hY x hx ho hx0
         · have e : decN l = some (oppP x, numL l 32 % top) := by unfold decN; rw [if_pos ⟨hl, hY⟩, hx, Option.bind_some, if_neg (fun k => hx0 k.2), if_pos ho]
           unfold eT decE
           rw [e]
           exact qDecode_6 v l w h hl hY x hx ho hx0
       · have ho0 : numL l 32 / top = 0 := (show ∀ s : Nat, s < 2 → s ≠ 1 → s = 0 by omega) _ hs ho
         have e : decN l = some (x, numL l 32 % top) := by unfold decN; rw [if_pos ⟨hl, hY⟩, hx, Option.bind_some, if_neg (fun k => ho k.1), if_neg ho]
         unfold eT decE
         rw [e]
         exact qDecode_5 v l w h hl hY x hx ho0
   · have e : decN l = none := by unfold decN; rw [if_neg (fun k => hY k.2)]
     unfold eT decE
     rw [e]
     exact qDecode_2 v l w h hl hY
 · have e : decN l = none := by unfold decN; rw [if_neg (fun k => hl k.1)]
   unfold eT decE
   rw [e]
   exact qDecode_1 v l w h hl
theorem qTEncode_any (t : Nat × Nat × Nat) (w : World) (h : LtT t) : Calls Tryz.prog 24 #[.agg (arrOf 12 (qT t))] w fun e w' => ∃ v, e = .returned v ∧ Owns w' w.heap.size v (litB (encQ t) 32) ∧ Below w.heap.size w w' := qEncode_any t.1 t.2.1 t.2.2 w h.1 h.2.1 h.2.2
theorem sWide_to (v : Value) (l : List UInt8) (w : World) (hv : Bs w v l) (V : Nat) (h : numL l 64 % ordL = V) : Calls Tryz.prog 55 #[v] w fun e w' => e = .returned (.agg (arrOf 4 (ewF V))) ∧ Below w.heap.size w w' := by
 rw [← h]
 exact sWide_any v l w hv
def w32 (s : Nat → BitVec 32) : Nat → Value := fun i => .int .u32 ((s i).toNat : Int)
def w64 (s : Nat → BitVec 64) : Nat → Value := fun i => .int .u64 ((s i).toNat : Int)
theorem zero8_64 : (Tryz.prog.info? 83).map (fun i => i.zero) = some (some (.agg (arrOf 8 fun _ => .int .u64 0))) := by kernel_rfl
theorem arr8_64 : IsArr Tryz.prog 83 8 := ⟨by kernel_rfl, by kernel_rfl⟩
set_option maxHeartbeats 400000 in
theorem all64_any (s : Nat → BitVec 64) (w : World) :
   Calls Tryz.prog 101 #[.agg (arrOf 8 (w64 s))] w fun e w' => e = .returned (.tuple #[w64 s 0, w64 s 1, w64 s 2, w64 s 3, w64 s 4, w64 s 5, w64 s 6, w64 s 7]) ∧ Below w.heap.size w w' := by
 have hrow := World.rowIs_alloc w (arrOf 8 (w64 s)) 83 (w64 s) (fun i hi => arrOf_get 8 _ i (by rw [arrOf_size] at hi; exact hi))
 rw [arrOf_size] at hrow
 have h0 := hrow.cell (i := 0) (by omega)
 have h1 := hrow.cell (i := 1) (by omega)
 have h2 := hrow.cell (i := 2) (by omega)
 have h3 := hrow.cell (i := 3) (by omega)
 have h4 := hrow.cell (i := 4) (by omega)
 have h5 := hrow.cell (i := 5) (by omega)
 have h6 := hrow.cell (i := 6) (by omega)
 have h7 := hrow.cell (i := 7) (by omega)
 have hb : Below w.heap.size w (w.alloc (.cells (arrOf 8 (w64 s)) 83)) := (Below.refl _ _).alloc (Nat.le_refl _) _
 clear hrow
 go_enter Tryz.func101, Tryz.ntmps101
 go_wp2
 go_quiet (fail)
 go_wp2
 refine bodyPost_ret (v := .tuple #[w64 s 0, w64 s 1, w64 s 2, w64 s 3, w64 s 4, w64 s 5, w64 s 6, w64 s 7]) (by simp [results, Tryz.results101, go_sem]) rfl ⟨rfl, below_drewN hb _⟩
set_option maxHeartbeats 400000 in
theorem plus64_any (s t : Nat → BitVec 64) (w : World) :
   Calls Tryz.prog 106 #[.agg (arrOf 8 (w64 s)), .agg (arrOf 8 (w64 t))] w fun e w' => e = .returned (.agg (arrOf 8 (w64 fun i => s i + t i))) ∧ Below w.heap.size w w' := by
 go_enter Tryz.func106, Tryz.ntmps106
 have hA := ((rowIs_arr w 8 (w64 s) 83).alloc (.cells (arrOf 8 (w64 t)) 83)).alloc (.cells (arrOf 8 fun _ => .int .u64 0) 83)
 have hB := (rowIs_arr (w.alloc (.cells (arrOf 8 (w64 s)) 83)) 8 (w64 t) 83).alloc (.cells (arrOf 8 fun _ => .int .u64 0) 83)
 have hC := rowIs_arr ((w.alloc (.cells (arrOf 8 (w64 s)) 83)).alloc (.cells (arrOf 8 (w64 t)) 83)) 8 (fun _ => .int .u64 0) 83
 have hb : Below w.heap.size w (((w.alloc (.cells (arrOf 8 (w64 s)) 83)).alloc (.cells (arrOf 8 (w64 t)) 83)).alloc (.cells (arrOf 8 fun _ => .int .u64 0) 83)) :=
   (((Below.refl _ _).alloc (Nat.le_refl _) _).alloc (by simp only [World.size_alloc]; omega) _).alloc (by simp only [World.size_alloc]; omega) _
 simp only [World.size_alloc] at hA hB hC
 go_wp2_with (first
   | refine wpList_alloc_arr rfl 83 rfl (arrOf 8 fun _ => .int .u64 0) zero8_64 ?_
   | refine wpList_load_arr rfl 83 (.tmp 3) rfl 8 arr8_64 hB rfl (by omega) ?_)
 go_loopw [8] (fun i wr => ∃ j : Nat, j ≤ 8 ∧ i = .int .i64 j ∧ wr.rowIs w.heap.size 83 8 (fun i => .int .u64 ((if i < j then s i + t i else s i).toNat : Int)) ∧
   wr.rowIs (w.heap.size + 1 + 1) 83 8 (fun _ => .int .u64 0) ∧ Below w.heap.size w wr) (fun i _ => 8 - (intOf i).toNat)
 case atStart => exact ⟨0, Nat.zero_le _, rfl, hA.congr fun i _ => rfl, hC, hb⟩
 case round =>
   obtain ⟨j, hj, rfl, hrow, hres, hbel⟩ := hrel
   clear hA hB hC hb
   by_cases hlt : j < 8
   · have hcell := hrow.cell hlt
     rw [if_neg (by omega)] at hcell
     have hfr := hrow.frozen j
     have hw : w64 t j = .int .u64 ((t j).toNat : Int) := rfl
     go_wp2_with (refine wpList_index_arr rfl 83 45 (.tmp 7) (.tmp 8) rfl 8 Tryz.underlying83 _ Tryz.underlying45 rfl (by kernel_rfl) rfl rfl hlt ?_)
     go_roundw
     case rel =>
       refine ⟨j + 1, by omega, by go_num, (hrow.set j _).congr fun i hi => ?_, hres.setOther (by show w.heap.size + 1 + 1 ≠ w.heap.size; omega) _, hbel.setCell (Nat.le_refl _) _⟩
       show (if i = j then _ else _) = _
       by_cases e : i = j
       · subst e
         rw [if_pos rfl, if_pos (by omega)]
         exact congrArg (Value.int .u64) (add64 _ _)
       · rw [if_neg e]
         by_cases h2 : i < j
         · rw [if_pos h2, if_pos (by omega)]
         · rw [if_neg h2, if_neg (by omega)]
     case measure => simp [intOf]; omega
   · obtain rfl : j = 8 := by omega
     have hrow8 : wr.rowIs w.heap.size 83 8 (w64 fun i => s i + t i) := hrow.congr fun i hi => by rw [if_pos hi]; rfl
     go_wp2_with (first
       | refine wpList_load_arr rfl 83 (.tmp 2) rfl 8 arr8_64 hrow8 rfl (by omega) ?_
       | (refine wpList_store_arr rfl 83 (.tmp 4) (.tmp 19) rfl 8 arr8_64 hres rfl rfl (by omega) (fun _ _ => rfl) ?_; intro w2 hr2 hg2 hs2))
     refine ret_cell_arr rfl arr8_64 hr2 rfl (by omega) rfl ⟨?_, hbel.grown hg2 hbel.size (by intro k hk; cases hk; omega)⟩
     congr 2
def kNums : List Nat := [0x428a2f98d728ae22, 0x7137449123ef65cd, 0xb5c0fbcfec4d3b2f, 0xe9b5dba58189dbbc, 0x3956c25bf348b538, 0x59f111f1b605d019, 0x923f82a4af194f9b, 0xab1c5ed5da6d8118,
 0xd807aa98a3030242, 0x12835b0145706fbe, 0x243185be4ee4b28c, 0x550c7dc3d5ffb4e2, 0x72be5d74f27b896f, 0x80deb1fe3b1696b1, 0x9bdc06a725c71235, 0xc19bf174cf692694,
 0xe49b69c19ef14ad2, 0xefbe4786384f25e3, 0x0fc19dc68b8cd5b5, 0x240ca1cc77ac9c65, 0x2de92c6f592b0275, 0x4a7484aa6ea6e483, 0x5cb0a9dcbd41fbd4, 0x76f988da831153b5,
 0x983e5152ee66dfab, 0xa831c66d2db43210, 0xb00327c898fb213f, 0xbf597fc7beef0ee4, 0xc6e00bf33da88fc2, 0xd5a79147930aa725, 0x06ca6351e003826f, 0x142929670a0e6e70,
 0x27b70a8546d22ffc, 0x2e1b21385c26c926, 0x4d2c6dfc5ac42aed, 0x53380d139d95b3df, 0x650a73548baf63de, 0x766a0abb3c77b2a8, 0x81c2c92e47edaee6, 0x92722c851482353b,
 0xa2bfe8a14cf10364, 0xa81a664bbc423001, 0xc24b8b70d0f89791, 0xc76c51a30654be30, 0xd192e819d6ef5218, 0xd69906245565a910, 0xf40e35855771202a, 0x106aa07032bbd1b8,
 0x19a4c116b8d2d0c8, 0x1e376c085141ab53, 0x2748774cdf8eeb99, 0x34b0bcb5e19b48a8, 0x391c0cb3c5c95a63, 0x4ed8aa4ae3418acb, 0x5b9cca4f7763e373, 0x682e6ff3d6b2b8a3,
 0x748f82ee5defb2fc, 0x78a5636f43172f60, 0x84c87814a1f0ab72, 0x8cc702081a6439ec, 0x90befffa23631e28, 0xa4506cebde82bde9, 0xbef9a3f7b2c67915, 0xc67178f2e372532b,
 0xca273eceea26619c, 0xd186b8c721c0c207, 0xeada7dd6cde0eb1e, 0xf57d4f7fee6ed178, 0x06f067aa72176fba, 0x0a637dc5a2c898a6, 0x113f9804bef90dae, 0x1b710b35131c471b,
 0x28db77f523047d84, 0x32caab7b40c72493, 0x3c9ebe0a15c9bebc, 0x431d67c49c100d4c, 0x4cc5d4becb3e42b6, 0x597f299cfc657e2a, 0x5fcb6fab3ad6faec, 0x6c44198c4a475817]
def iNums : List Nat := [0x6a09e667f3bcc908, 0xbb67ae8584caa73b, 0x3c6ef372fe94f82b, 0xa54ff53a5f1d36f1, 0x510e527fade682d1, 0x9b05688c2b3e6c1f, 0x1f83d9abfb41bd6b, 0x5be0cd19137e2179]
def K64 (i : Nat) : BitVec 64 := BitVec.ofNat 64 (kNums.getD i 0)
def I64 (i : Nat) : BitVec 64 := BitVec.ofNat 64 (iNums.getD i 0)
def k512 : Kind 64 := { big0 := fun x => tri x 28 34 39, big1 := fun x => tri x 14 18 41, low0 := fun x => sig x 1 8 7, low1 := fun x => sig x 19 61 6, num := K64, rounds := 80, first := S8.of I64, bytes := 8 }
theorem zero80 : (Tryz.prog.info? 104).map (fun i => i.zero) = some (some (.agg (arrOf 80 fun _ => .int .u64 0))) := by kernel_rfl
theorem arr80 : IsArr Tryz.prog 104 80 := ⟨by kernel_rfl, by kernel_rfl⟩
set_option maxHeartbeats 400000 in
theorem roots_any (w : World) : Calls Tryz.prog 100 #[] w fun e w' => e = .returned (.agg (arrOf 80 (w64 K64))) ∧ Below w.heap.size w w' := by
 go_enter Tryz.func100, Tryz.ntmps100
 have hres := rowIs_arr w 80 (fun _ => .int .u64 0) 104
 go_wp2_with (first
   | refine wpList_alloc_arr rfl 104 rfl (arrOf 80 fun _ => .int .u64 0) zero80 ?_
   | refine wpList_build_arr rfl 104 _ rfl (arrOf 80 (w64 K64)) (by kernel_rfl) ?_
   | (refine wpList_store_arr rfl 104 (.tmp 0) (.tmp 1) rfl 80 arr80 hres rfl rfl (by omega) (fun _ _ => rfl) ?_; intro w2 hr2 hg2 hs2))
 refine ret_cell_arr rfl arr80 hr2 rfl (by omega) rfl ⟨?_, ((Below.refl _ _).alloc (Nat.le_refl _) _).grown hg2 (by simp) (by intro k hk; cases hk; omega)⟩
 refine congrArg (fun c => Ending.returned (Value.agg c)) (arrOf_congr fun i hi => ?_)
 unfold putN
 rw [if_pos (by omega)]
 simp only [Nat.zero_add, Nat.sub_zero]
set_option maxHeartbeats 400000 in
theorem refRounds_any (w : World) : Calls Tryz.prog 70 #[] w fun e w' => e = .returned (.agg (arrOf 80 (w64 K64))) ∧ Below w.heap.size w w' := by
 go_enter Tryz.func70, Tryz.ntmps70
 have hres := rowIs_arr w 80 (fun _ => .int .u64 0) 104
 go_wp2_with (first
   | refine wpList_alloc_arr rfl 104 rfl (arrOf 80 fun _ => .int .u64 0) zero80 ?_
   | refine wpList_build_arr rfl 104 _ rfl (arrOf 80 (w64 K64)) (by kernel_rfl) ?_
   | (refine wpList_store_arr rfl 104 (.tmp 0) (.tmp 1) rfl 80 arr80 hres rfl rfl (by omega) (fun _ _ => rfl) ?_; intro w2 hr2 hg2 hs2))
 refine ret_cell_arr rfl arr80 hr2 rfl (by omega) rfl ⟨?_, ((Below.refl _ _).alloc (Nat.le_refl _) _).grown hg2 (by simp) (by intro k hk; cases hk; omega)⟩
 refine congrArg (fun c => Ending.returned (Value.agg c)) (arrOf_congr fun i hi => ?_)
 unfold putN
 rw [if_pos (by omega)]
 simp only [Nat.zero_add, Nat.sub_zero]
set_option maxHeartbeats 400000 in
theorem start512_any (w : World) : Calls Tryz.prog 49 #[] w fun e w' => e = .returned (.agg (arrOf 8 (w64 I64))) ∧ Below w.heap.size w w' := by
 go_enter Tryz.func49, Tryz.ntmps49
 have hres := rowIs_arr w 8 (fun _ => .int .u64 0) 83
 go_wp2_with (first
   | refine wpList_alloc_arr rfl 83 rfl (arrOf 8 fun _ => .int .u64 0) zero8_64 ?_
   | refine wpList_build_arr rfl 83 _ rfl (arrOf 8 (w64 I64)) (by kernel_rfl) ?_
   | (refine wpList_store_arr rfl 83 (.tmp 0) (.tmp 1) rfl 8 arr8_64 hres rfl rfl (by omega) (fun _ _ => rfl) ?_; intro w2 hr2 hg2 hs2))
 refine ret_cell_arr rfl arr8_64 hr2 rfl (by omega) rfl ⟨?_, ((Below.refl _ _).alloc (Nat.le_refl _) _).grown hg2 (by simp) (by intro k hk; cases hk; omega)⟩
 refine congrArg (fun c => Ending.returned (Value.agg c)) (arrOf_congr fun i hi => ?_)
 unfold putN
 rw [if_pos (by omega)]
 simp only [Nat.zero_add, Nat.sub_zero]
set_option maxHeartbeats 400000 in
theorem refStart_any (w : World) : Calls Tryz.prog 71 #[] w fun e w' => e = .returned (.agg (arrOf 8 (w64 I64))) ∧ Below w.heap.size w w' := by
 go_enter Tryz.func71, Tryz.ntmps71
 have hres := rowIs_arr w 8 (fun _ => .int .u64 0) 83
 go_wp2_with (first
   | refine wpList_alloc_arr rfl 83 rfl (arrOf 8 fun _ => .int .u64 0) zero8_64 ?_
   | refine wpList_build_arr rfl 83 _ rfl (arrOf 8 (w64 I64)) (by kernel_rfl) ?_
   | (refine wpList_store_arr rfl 83 (.tmp 0) (.tmp 1) rfl 8 arr8_64 hres rfl rfl (by omega) (fun _ _ => rfl) ?_; intro w2 hr2 hg2 hs2))
 refine ret_cell_arr rfl arr8_64 hr2 rfl (by omega) rfl ⟨?_, ((Below.refl _ _).alloc (Nat.le_refl _) _).grown hg2 (by simp) (by intro k hk; cases hk; omega)⟩
 refine congrArg (fun c => Ending.returned (Value.agg c)) (arrOf_congr fun i hi => ?_)
 unfold putN
 rw [if_pos (by omega)]
 simp only [Nat.zero_add, Nat.sub_zero]
def u8f (blk : List UInt8) : Nat → Value := fun i => .int .u8 ((blk.getD i 0).toNat : Int)
theorem Bs.of_part {w : World} {b m off n cap : Nat} {t : TypeId} {f : Nat → Value} (h : w.rowIs b t m f) (l : List UInt8) (hn : l.length = n) (hm : off + n ≤ m) (hc : n ≤ cap) (hcm : cap ≤ maxLen)
   (hf : ∀ i (hi : i < l.length), f (off + i) = .int .u8 ((l[i]).toNat : Int)) : Bs w (.slice (some ⟨b, off, none⟩) n cap) l := by
 subst hn
 refine ⟨_, cap, rfl, hc, hcm, (fun h => by cases h), fun x hx i hi => ?_⟩
 cases hx
 refine ⟨h.lt, ?_⟩
 rw [add_eq, h.cell (by omega), hf i hi]
theorem numB_w64 (l : List UInt8) : (numB l 8 : Int) = ((BitVec.ofNat 64 (numB l 8)).toNat : Int) := (ofNat64 _ (numB_lt l 8)).symm
theorem wadd64 (a b : BitVec 64) : IntKind.u64.wrap ((a.toNat : Int) + b.toNat) = ((a + b).toNat : Int) := add64 a b
theorem add4_64 (a b c d : BitVec 64) : IntKind.u64.wrap (IntKind.u64.wrap (IntKind.u64.wrap ((a.toNat : Int) + b.toNat) + c.toNat) + d.toNat) = ((a + b + c + d).toNat : Int) := by
 rw [wadd64, wadd64, wadd64]
theorem sig_val64 (x : BitVec 64) (i j k : Nat) : bits .xor .u64 (bits .xor .u64 (rotr x i).toNat (rotr x j).toNat) ((x.toNat : Int) / 2 ^ k) = ((sig x i j k).toNat : Int) := by
 rw [shr32, xor64, xor64]; rfl
theorem zeroR_64 : (Tryz.prog.info? 104).map (fun i => i.zero) = some (some (.agg (arrOf 80 fun _ => .int .u64 0))) := by kernel_rfl
theorem arrR_64 : IsArr Tryz.prog 104 80 := ⟨by kernel_rfl, by kernel_rfl⟩
theorem arrB_64 : IsArr Tryz.prog 85 128 := ⟨by kernel_rfl, by kernel_rfl⟩
set_option maxHeartbeats 1600000 in
theorem spread512_any (blk : List UInt8) (w : World) (hl : blk.length = 128) :
   Calls Tryz.prog 102 #[.agg (arrOf 128 (u8f blk))] w fun e w' => e = .returned (.agg (arrOf 80 (w64 (k512.sched (k512.word blk))))) ∧ Below w.heap.size w w' := by
 go_enter Tryz.func102, Tryz.ntmps102
 have hX := ((rowIs_arr w 128 (u8f blk) 85).alloc (.cells (arrOf 80 fun _ => .int .u64 0) 104)).alloc (.cells (arrOf 80 fun _ => .int .u64 0) 104)
 have hA := (rowIs_arr (w.alloc (.cells (arrOf 128 (u8f blk)) 85)) 80 (fun _ => .int .u64 0) 104).alloc (.cells (arrOf 80 fun _ => .int .u64 0) 104)
 have hB := rowIs_arr ((w.alloc (.cells (arrOf 128 (u8f blk)) 85)).alloc (.cells (arrOf 80 fun _ => .int .u64 0) 104)) 80 (fun _ => .int .u64 0) 104
 have hb : Below w.heap.size w (((w.alloc (.cells (arrOf 128 (u8f blk)) 85)).alloc (.cells (arrOf 80 fun _ => .int .u64 0) 104)).alloc (.cells (arrOf 80 fun _ => .int .u64 0) 104)) :=
   (((Below.refl _ _).alloc (Nat.le_refl _) _).alloc (by simp only [World.size_alloc]; omega) _).alloc (by simp only [World.size_alloc]; omega) _
 simp only [World.size_alloc] at hX hA hB
 go_wp2_with (first
   | refine wpList_alloc_arr rfl 104 rfl (arrOf 80 fun _ => .int .u64 0) zeroR_64 ?_)
 go_loopw [10] (fun i wr => ∃ j : Nat, j ≤ 16 ∧ i = .int .i64 j ∧ wr.rowIs w.heap.size 85 128 (u8f blk) ∧
   wr.rowIs (w.heap.size + 1 + 1) 104 80 (fun i => .int .u64 (if i < j then ((k512.sched (k512.word blk) i).toNat : Int) else 0)) ∧
   wr.rowIs (w.heap.size + 1) 104 80 (fun _ => .int .u64 0) ∧ Below w.heap.size w wr) (fun i _ => 16 - (intOf i).toNat)
 case atStart => exact ⟨0, Nat.zero_le _, rfl, hX, hB.congr fun i _ => rfl, hA, hb⟩
 case round =>
   obtain ⟨j, hj, rfl, hblk, hrow, hres, hbel⟩ := hrel
   clear hX hA hB hb
   by_cases hlt : j < 16
   · have hcell := hrow.cell (i := j) (by omega)
     have hfr := hrow.frozen j
     have HB : Hid (Bs wr (.slice (some ⟨w.heap.size, 8 * j, none⟩) (128 - 8 * j) (128 - 8 * j)) (blk.drop (8 * j))) := Lib.hid (Bs.of_part hblk _ (by rw [List.length_drop, hl]) (by omega) (Nat.le_refl _) (by unfold maxLen; omega) fun i hi => by
       rw [List.length_drop] at hi
       unfold u8f
       rw [List.getElem_drop, List.getD_eq_getElem?_getD, List.getElem?_eq_getElem (by omega)]; rfl)
     go_wp2_with (first
       | refine wpList_sliceFrom_arr rfl 85 5 (.tmp 1) (.tmp 15) rfl Tryz.underlying85 (by kernel_rfl) (j := 8 * j) rfl rfl (by omega) (by omega) ?_
       | (go_at_call 127; refine (get64_any _ _ _ HB.out).mono ?_; rintro e w1 ⟨rfl, rfl⟩))
     go_roundw
     case rel =>
       refine ⟨j + 1, by omega, by go_num, hblk.setOther (by show w.heap.size ≠ w.heap.size + 1 + 1; omega) _, (hrow.set j _).congr fun i hi => ?_, hres.setOther (by show w.heap.size + 1 ≠ w.heap.size + 1 + 1; omega) _, hbel.setCell (by show w.heap.size ≤ w.heap.size + 1 + 1; omega) _⟩
       show (if i = j then _ else _) = _
       by_cases e : i = j
       · subst e
         rw [if_pos rfl, if_pos (by omega), Kind.sched_low _ _ _ hlt]
         exact congrArg (Value.int .u64) (numB_w64 _)
       · rw [if_neg e]
         by_cases h2 : i < j
         · rw [if_pos h2, if_pos (by omega)]
         · rw [if_neg h2, if_neg (by omega)]
     case measure => simp [intOf]; omega
   · obtain rfl : j = 16 := by omega
     clear hblk hlt hj
     go_wp2
     go_loopw [5] (fun i wr => ∃ j : Nat, 16 ≤ j ∧ j ≤ 80 ∧ i = .int .i64 j ∧
       wr.rowIs (w.heap.size + 1 + 1) 104 80 (fun i => .int .u64 (if i < j then ((k512.sched (k512.word blk) i).toNat : Int) else 0)) ∧
       wr.rowIs (w.heap.size + 1) 104 80 (fun _ => .int .u64 0) ∧ Below w.heap.size w wr) (fun i _ => 80 - (intOf i).toNat)
     case atStart => exact ⟨16, by omega, by omega, rfl, hrow, hres, hbel⟩
     case round =>
       clear hrow hres hbel
       obtain ⟨j, hj0, hj, rfl, hrow, hres, hbel⟩ := hrel
       by_cases hlt : j < 80
       · have c15 := hrow.cell (i := j - 15) (by omega)
         have c2 := hrow.cell (i := j - 2) (by omega)
         have c7 := hrow.cell (i := j - 7) (by omega)
         have c16 := hrow.cell (i := j - 16) (by omega)
         have c0 := hrow.cell (i := j) (by omega)
         rw [if_pos (by omega)] at c15 c2 c7 c16
         rw [if_neg (by omega)] at c0
         have hfr := hrow.frozen j
         have b1 : (15 : Int) ≤ (j : Int) := by omega
         have b2 : (j : Int) < 80 := by omega
         have hs : IntKind.u64.signed = false := rfl
         go_wp2
         go_quiet (fail)
         go_wp2_with (go_at_call 128; refine (rotl64_lit _ _ _ (by omega) (by omega)).mono ?_; rintro e w1 ⟨rfl, rfl⟩)
         go_region
         go_wp2
         go_roundw
         case rel =>
           (repeat apply Exists.intro)
           refine ⟨?_, rfl⟩
           refine ⟨j + 1, by omega, by omega, by go_num, (hrow.set j _).congr fun i hi => ?_, hres.setOther (by show w.heap.size + 1 ≠ w.heap.size + 1 + 1; omega) _, below_drewN (hbel.setCell (by show w.heap.size ≤ w.heap.size + 1 + 1; omega) _) _⟩
           show (if i = j then _ else _) = _
           by_cases e : i = j
           · subst e
             rw [if_pos rfl, if_pos (by omega), Kind.sched_high _ _ _ hj0]
             refine congrArg (Value.int .u64) ?_
             have e1 : bits .xor .u64 (bits .xor .u64 (rotr (k512.sched (k512.word blk) (i - 2)) 19).toNat (rotr (k512.sched (k512.word blk) (i - 2)) 61).toNat) (((k512.sched (k512.word blk) (i - 2)).toNat : Int) / 64) = ((k512.low1 (k512.sched (k512.word blk) (i - 2))).toNat : Int) := sig_val64 _ 19 61 6
             have e2 : bits .xor .u64 (bits .xor .u64 (rotr (k512.sched (k512.word blk) (i - 15)) 1).toNat (rotr (k512.sched (k512.word blk) (i - 15)) 8).toNat) (((k512.sched (k512.word blk) (i - 15)).toNat : Int) / 128) = ((k512.low0 (k512.sched (k512.word blk) (i - 15))).toNat : Int) := sig_val64 _ 1 8 7
             rw [e1, e2]
             exact add4_64 _ _ _ _
           · rw [if_neg e]
             by_cases h2 : i < j
             · rw [if_pos h2, if_pos (by omega)]
             · rw [if_neg h2, if_neg (by omega)]
         case measure => simp [intOf]; omega
       · obtain rfl : j = 80 := by omega
         have hrowR : wr.rowIs (w.heap.size + 1 + 1) 104 80 (w64 (k512.sched (k512.word blk))) := hrow.congr fun i hi => by rw [if_pos hi]; rfl
         go_wp2_with (first
           | refine wpList_load_arr rfl 104 (.tmp 3) rfl 80 arrR_64 hrowR rfl (by omega) ?_
           | (refine wpList_store_arr rfl 104 (.tmp 2) (.tmp 63) rfl 80 arrR_64 hres rfl rfl (by omega) (fun _ _ => rfl) ?_; intro w2 hr2 hg2 hs2))
         refine ret_cell_arr rfl arrR_64 hr2 rfl (by omega) rfl ⟨?_, hbel.grown hg2 hbel.size (by intro k hk; cases hk; omega)⟩
         refine congrArg (fun c => Ending.returned (Value.agg c)) (arrOf_congr fun i hi => ?_)
         unfold putN
         rw [if_pos (by omega)]
         simp only [Nat.zero_add, Nat.sub_zero]
theorem press_a64 (W h t c : BitVec 64) (j : Nat) (g m : BitVec 64) : IntKind.u64.wrap (IntKind.u64.wrap (IntKind.u64.wrap ((W.toNat : Int) + IntKind.u64.wrap (IntKind.u64.wrap (IntKind.u64.wrap ((h.toNat : Int) + t.toNat) + c.toNat) + (K64 j).toNat)) + g.toNat) + m.toNat) = ((W + (h + t + c + K64 j) + g + m).toNat : Int) := by
 simp only [wadd64]
theorem press_e64 (d W h t c : BitVec 64) (j : Nat) : IntKind.u64.wrap ((d.toNat : Int) + IntKind.u64.wrap ((W.toNat : Int) + IntKind.u64.wrap (IntKind.u64.wrap (IntKind.u64.wrap ((h.toNat : Int) + t.toNat) + c.toNat) + (K64 j).toNat))) = ((d + (W + (h + t + c + K64 j))).toNat : Int) := by
 simp only [wadd64]
set_option maxHeartbeats 4000000 in
theorem press512_any (s : S8 64) (blk : List UInt8) (w : World) (hl : blk.length = 128) :
   Calls Tryz.prog 51 #[.agg (arrOf 8 (w64 s.at)), .agg (arrOf 128 (u8f blk))] w fun e w' => e = .returned (.agg (arrOf 8 (w64 (k512.press s blk).at))) ∧ Below w.heap.size w w' := by
 go_enter Tryz.func51, Tryz.ntmps51
 have hA := ((rowIs_arr w 8 (w64 s.at) 83).alloc (.cells (arrOf 128 (u8f blk)) 85)).alloc (.cells (arrOf 8 fun _ => .int .u64 0) 83)
 have hB := (rowIs_arr (w.alloc (.cells (arrOf 8 (w64 s.at)) 83)) 128 (u8f blk) 85).alloc (.cells (arrOf 8 fun _ => .int .u64 0) 83)
 have hC := rowIs_arr ((w.alloc (.cells (arrOf 8 (w64 s.at)) 83)).alloc (.cells (arrOf 128 (u8f blk)) 85)) 8 (fun _ => .int .u64 0) 83
 have hb : Below w.heap.size w (((w.alloc (.cells (arrOf 8 (w64 s.at)) 83)).alloc (.cells (arrOf 128 (u8f blk)) 85)).alloc (.cells (arrOf 8 fun _ => .int .u64 0) 83)) :=
   (((Below.refl _ _).alloc (Nat.le_refl _) _).alloc (by simp only [World.size_alloc]; omega) _).alloc (by simp only [World.size_alloc]; omega) _
 simp only [World.size_alloc] at hA hB hC
 have hw : ∀ i, w64 s.at i = .int .u64 ((s.at i).toNat : Int) := fun _ => rfl
 go_wp2_with (first
   | refine wpList_alloc_arr rfl 83 rfl (arrOf 8 fun _ => .int .u64 0) zero8_64 ?_
   | (go_at_call 100; refine (roots_any _).mono ?_; rintro e w1 ⟨rfl, hb1⟩
      replace hA := hA.of_block (hb1.block _ hA.lt)
      replace hB := hB.of_block (hb1.block _ hB.lt)
      replace hC := hC.of_block (hb1.block _ hC.lt)
      replace hb := hb.trans (hb1.mono hb.size)
      replace hb := hb.alloc hb.size (.cells (arrOf 80 fun _ => .int .u64 0) 104)
      have hR := rowIs_arr w1 80 (fun _ => .int .u64 0) 104
      have hsz := hb1.size
      simp only [World.size_alloc] at hsz
      clear hb1)
   | refine wpList_alloc_arr rfl 104 rfl (arrOf 80 fun _ => .int .u64 0) zero80 ?_
   | (refine wpList_store_arr rfl 104 (.tmp 5) (.tmp 18) rfl 80 arr80 hR rfl rfl (by omega) (fun _ _ => rfl) ?_; intro w2 hr2 hg2 hs2
      replace hA := (hA.alloc (.cells (arrOf 80 fun _ => .int .u64 0) 104)).of_block (hg2.block _ (by simp only [World.size_alloc]; omega) (by intro h; have := Option.some.inj h; omega))
      replace hB := (hB.alloc (.cells (arrOf 80 fun _ => .int .u64 0) 104)).of_block (hg2.block _ (by simp only [World.size_alloc]; omega) (by intro h; have := Option.some.inj h; omega))
      replace hC := (hC.alloc (.cells (arrOf 80 fun _ => .int .u64 0) 104)).of_block (hg2.block _ (by simp only [World.size_alloc]; omega) (by intro h; have := Option.some.inj h; omega))
      replace hb := hb.grown hg2 hb.size (by intro k hk; cases hk; omega)
      replace hR := hr2.congr (g := w64 K64) (fun i hi => by unfold putN; rw [if_pos (by omega)]; rfl)
      clear hr2 hg2 hs2)
   | refine wpList_load_arr rfl 83 (.tmp 2) rfl 8 arr8_64 hA rfl (by omega) ?_
   | (go_at_call 101; refine (all64_any s.at _).mono ?_; rintro e w3 ⟨rfl, hb3⟩
      replace hA := hA.of_block (hb3.block _ hA.lt)
      replace hB := hB.of_block (hb3.block _ hB.lt)
      replace hC := hC.of_block (hb3.block _ hC.lt)
      replace hR := hR.of_block (hb3.block _ hR.lt)
      replace hb := hb.trans (hb3.mono hb.size)
      clear hb3)
   | refine wpList_load_arr rfl 85 (.tmp 3) rfl 128 arrB_64 hB rfl (by omega) ?_
   | (go_at_call 102; refine (spread512_any blk _ hl).mono ?_; rintro e w4 ⟨rfl, hb4⟩
      replace hA := hA.of_block (hb4.block _ hA.lt)
      replace hC := hC.of_block (hb4.block _ hC.lt)
      replace hR := hR.of_block (hb4.block _ hR.lt)
      replace hb := hb.trans (hb4.mono hb.size)
      clear hb4 hB))
 clear hw
 generalize w1.heap.size = nb at *
 obtain ⟨W, hW⟩ : ∃ W, W = k512.sched (k512.word blk) := ⟨_, rfl⟩
 rw [← hW]
 go_loopw [6, 7, 8, 9, 10, 11, 12, 13, 32] (fun a b c d e f g h i wr => ∃ (j : Nat) (s' : S8 64), j ≤ 80 ∧ Hid (s' = k512.rnd W s j) ∧ i = .int .i64 j ∧
   a = .int .u64 (s'.a.toNat : Int) ∧ b = .int .u64 (s'.b.toNat : Int) ∧ c = .int .u64 (s'.c.toNat : Int) ∧ d = .int .u64 (s'.d.toNat : Int) ∧
   e = .int .u64 (s'.e.toNat : Int) ∧ f = .int .u64 (s'.f.toNat : Int) ∧ g = .int .u64 (s'.g.toNat : Int) ∧ h = .int .u64 (s'.h.toNat : Int) ∧
   wr.rowIs w.heap.size 83 8 (w64 s.at) ∧ wr.rowIs (w.heap.size + 1 + 1) 83 8 (fun _ => .int .u64 0) ∧ wr.rowIs nb 104 80 (w64 K64) ∧ Below w.heap.size w wr) (fun _ _ _ _ _ _ _ _ i _ => 80 - (intOf i).toNat)
 case atStart => exact ⟨0, s, Nat.zero_le _, rfl, rfl, rfl, rfl, rfl, rfl, rfl, rfl, rfl, rfl, hA, hC, hR, hb⟩
 case round =>
   clear hA hC hR hb
   obtain ⟨j, s', hj, HS, rfl, rfl, rfl, rfl, rfl, rfl, rfl, rfl, rfl, hA, hC, hR, hb⟩ := hrel
   by_cases hlt : j < 80
   · have hcell : wr.cell? ⟨nb, j, none⟩ = some (.int .u64 ((K64 j).toNat : Int)) := hR.cell (by omega)
     have hw : w64 W j = .int .u64 ((W j).toNat : Int) := rfl
     have hs : IntKind.u64.signed = false := rfl
     have hj80 : (j : Int) < 80 := by omega
     clear hW
     go_wp2_with (first
       | refine wpList_index_arr rfl 104 45 (.tmp 31) (.tmp 32) rfl 80 Tryz.underlying104 _ Tryz.underlying45 rfl (by kernel_rfl) rfl rfl hlt ?_
       | (go_at_call 103; refine (turn64_lit _ _ _ _ _ (by omega) (by omega) (by omega) (by omega) (by omega) (by omega)).mono ?_; rintro e w1 ⟨rfl, rfl⟩))
     go_quiet ((go_at_call 104; exact Calls.quiet_of_same (choose64_any _ _ _ _)))
     go_wp2_with (go_at_call 105; refine (most64_any _ _ _ _).mono ?_; rintro e w1 ⟨rfl, rfl⟩)
     go_roundw
     case rel =>
       refine ⟨j + 1, k512.step (k512.num j) (W j) s', by omega, by rw [HS.out]; rfl, by go_num, ?_, rfl, rfl, rfl, ?_, rfl, rfl, rfl, hA, hC, hR, below_drewN hb _⟩
       · exact congrArg (Value.int .u64) (press_a64 (W j) s'.h (k512.big1 s'.e) (chz s'.e s'.f s'.g) j (k512.big0 s'.a) (maj s'.a s'.b s'.c))
       · exact congrArg (Value.int .u64) (press_e64 s'.d (W j) s'.h (k512.big1 s'.e) (chz s'.e s'.f s'.g) j)
     case measure => simp [intOf]; omega
   · obtain rfl : j = 80 := by omega
     go_wp2_with (first
       | refine wpList_load_arr rfl 83 (.tmp 2) rfl 8 arr8_64 hA rfl (by omega) ?_
       | refine wpList_build_arr rfl 83 _ rfl (arrOf 8 (w64 s'.at)) (by kernel_rfl) ?_
       | (go_at_call 106; refine (plus64_any s.at s'.at _).mono ?_; rintro e w5 ⟨rfl, hb5⟩
          replace hC := hC.of_block (hb5.block _ hC.lt)
          replace hb := hb.trans (hb5.mono hb.size)
          clear hb5)
       | (refine wpList_store_arr rfl 83 (.tmp 4) (.tmp 82) rfl 8 arr8_64 hC rfl rfl (by omega) (fun _ _ => rfl) ?_; intro w6 hr6 hg6 hs6))
     refine ret_cell_arr rfl arr8_64 hr6 rfl (by omega) rfl ⟨?_, hb.grown hg6 hb.size (by intro k hk; cases hk; omega)⟩
     refine congrArg (fun c => Ending.returned (Value.agg c)) (arrOf_congr fun i hi => ?_)
     unfold putN
     rw [if_pos (by omega)]
     have hp : k512.press s blk = S8.add s s' := by rw [HS.out, hW]; rfl
     rw [hp]
     simp only [Nat.zero_add, Nat.sub_zero]
     show Value.int .u64 ((s.at i + s'.at i).toNat : Int) = Value.int .u64 (((S8.add s s').at i).toNat : Int)
     rw [S8.at_add]
theorem endRoom_ge (n B : Nat) (hB : 64 ≤ B) : 9 ≤ endRoom n B ∧ endRoom n B ≤ 2 * B := by
 have h1 : n % B < B := Nat.mod_lt _ (by omega)
 unfold endRoom; split <;> omega
theorem getD_of_lt (l : List UInt8) (i : Nat) (h : i < l.length) : l.getD i 0 = l[i] := by
 rw [List.getD_eq_getElem?_getD, List.getElem?_eq_getElem h]; rfl
theorem endOf_get (n B i : Nat) (hB : 64 ≤ B) (h : i < endRoom n B) : (endOf n B).getD i 0 = if i = 0 then 128 else if i < endRoom n B - 8 then 0 else (bigB (8 * n) 8).getD (i - (endRoom n B - 8)) 0 := by
 have h9 := endRoom_ge n B hB
 unfold endOf
 generalize endRoom n B = r at *
 have hl : ([128] ++ List.replicate (r - 9) (0 : UInt8)).length = r - 8 := by simp; omega
 rw [List.getD_eq_getElem?_getD, List.getElem?_append, hl]
 by_cases e1 : i = 0
 · subst e1; rw [if_pos (by omega)]; rfl
 · rw [if_neg e1]
   by_cases e2 : i < r - 8
   · rw [if_pos e2, if_pos e2]
     obtain ⟨j, rfl⟩ : ∃ j, i = j + 1 := ⟨i - 1, by omega⟩
     simp [show j < r - 9 by omega]
   · rw [if_neg e2, if_neg e2, List.getD_eq_getElem?_getD]
set_option maxHeartbeats 4000000 in
theorem ending128_any (n : Nat) (w : World) (hn : n < 2 ^ 60) :
   Calls Tryz.prog 53 #[.int .u64 n, .int .i64 128] w fun e w' => ∃ v, e = .returned v ∧ Bs w' v (endOf n 128) ∧ Below w.heap.size w w' ∧ ∃ c, v = .slice (some ⟨w.heap.size, 0, none⟩) (endOf n 128).length c := by
 obtain ⟨r, hr⟩ : ∃ r, r = endRoom n 128 := ⟨_, rfl⟩
 have hr9 : 9 ≤ r ∧ r ≤ 256 := by rw [hr]; have := endRoom_ge n 128 (by omega); omega
 have hmk : ∀ w : World, (Instr.makeSlice 22 (.int .i64 r) (.int .i64 r)).run Tryz.prog w = .ok (.slice (some ⟨w.heap.size, 0, none⟩) r r) (w.alloc (.cells (madeCells #[.int .u8 0] r) 5)) :=
   fun w => run_make_row' (P := Tryz.prog) 22 5 (.int .u8 0) 1 Tryz.underlying22 Try.info5 rfl .i64 .i64 r (by omega) (by omega) w
 have hmade := World.rowIs_made w (.int .u8 0) r 5
 have hc0 := hmade.cell (i := 0) (by omega)
 have hf0 := hmade.frozen 0
 have hr0 : (0 : Int) < (r : Int) := by omega
 go_enter Tryz.func53, Tryz.ntmps53
 by_cases hc : 128 - n % 128 < 1 + 128 / 8
 focus
   have hrI : (128 : Int) - (n : Int) % 128 + 128 = (r : Int) := by rw [hr]; unfold endRoom; rw [if_pos hc]; omega
   have hcI : (128 : Int) - (n : Int) % 128 < 17 := by omega
   have HR := Lib.hid hr
   clear hr hc
   go_wp2
 rotate_left
 focus
   have hrI : (128 : Int) - (n : Int) % 128 = (r : Int) := by rw [hr]; unfold endRoom; rw [if_neg hc]; omega
   have hcI : (17 : Int) ≤ (r : Int) := by rw [hr]; unfold endRoom; rw [if_neg hc]; omega
   have HR := Lib.hid hr
   clear hr hc
   go_wp2
 rotate_left
 all_goals
   have hrow := hmade.set 0 (.int .u8 128)
   have hb : Below w.heap.size w ((w.alloc (.cells (madeCells #[.int .u8 0] r) 5)).setCell ⟨w.heap.size, 0, none⟩ (.int .u8 128)) := ((Below.refl _ _).alloc (Nat.le_refl _) _).setCell (Nat.le_refl _) _
   rw [World.setCell_alloc_at _ _ _ _ _ rfl] at hrow hb
   generalize (w.alloc (.cells ((madeCells #[.int .u8 0] r).setIfInBounds 0 (.int .u8 128)) 5)) = w0 at *
   clear hmade hmk hc0 hf0 hr0 hcI hrI
   have hw8 : IntKind.i64.wrap ((r : Int) - 8) = ((r - 8 : Nat) : Int) := by rw [IntWalk.i64_in _ (by omega)]; omega
   have hm8 : IntKind.u64.wrap (8 * (n : Int)) = ((8 * n : Nat) : Int) := by rw [IntWalk.u64_in _ (by omega)]; omega
   replace hrow := hrow.drew
   replace hb := hb.drew
   refine wp_region_lins [(0, some []), (1, some []), (2, some []), (3, some [7]), (4, some []), (5, some [6]), (6, none), (7, none)] (fun _ _ => True) (by kernel_rfl) (by kernel_rfl) (by decide) (by kernel_rfl) (fun d _ _ _ _ h => by cases d <;> exact h) (fun _ _ => trivial) ?_
   refine lins_read 26 (Op.move (Operand.tmp 6)) 22 _ rfl rfl rfl rfl rfl (fun w0 hw0 => by unfold mkOp; go_simp; all_goals (with_reducible rfl)) ?_
   simp only [Act.put, List.setIfInBounds_toArray, List.set_cons_zero, List.set_cons_succ]
   refine lins_read 27 (Op.move (Operand.tmp 5)) 3 _ rfl rfl rfl rfl rfl (fun w0 hw0 => by unfold mkOp; go_simp; all_goals (with_reducible rfl)) ?_
   simp only [Act.put, List.setIfInBounds_toArray, List.set_cons_zero, List.set_cons_succ]
   refine lins_read 28 (Op.binOp BinOp.sub 3 (Operand.tmp 27) (Operand.const (Value.int IntKind.i64 8)) 3) 3 _ rfl rfl rfl rfl rfl (fun w0 hw0 => by unfold mkOp; go_simp; all_goals (with_reducible rfl)) ?_
   simp only [Act.put, List.setIfInBounds_toArray, List.set_cons_zero, List.set_cons_succ]
   refine lins_read 29 (Op.slice 22 (Operand.tmp 26) (some (Operand.tmp 28)) none none) 22 (.slice (some ⟨w.heap.size, r - 8, none⟩) 8 8) rfl rfl rfl rfl rfl (fun w0 hw0 => by exact exec_sliceAt _ _ _ _ _ _ (r - 8) Tryz.underlying22 (by kernel_rfl) rfl rfl (by omega) (by omega) (by omega) (by omega) (by omega) (by omega)) ?_
   simp only [Act.put, List.setIfInBounds_toArray, List.set_cons_zero, List.set_cons_succ]
   refine lins_read 30 (Op.move (Operand.tmp 0)) 45 _ rfl rfl rfl rfl rfl (fun w0 hw0 => by unfold mkOp; go_simp; all_goals (with_reducible rfl)) ?_
   simp only [Act.put, List.setIfInBounds_toArray, List.set_cons_zero, List.set_cons_succ]
   refine lins_read 31 (Op.binOp BinOp.mul 45 (Operand.const (Value.int IntKind.u64 8)) (Operand.tmp 30) 45) 45 _ rfl rfl rfl rfl rfl (fun w0 hw0 => by unfold mkOp; go_simp; all_goals (with_reducible rfl)) ?_
   simp only [Act.put, List.setIfInBounds_toArray, List.set_cons_zero, List.set_cons_succ]
   refine lins_fn (some 32) 54 #[Operand.tmp 31] #[45] _ (put64_any (8 * n) _ (by omega)) rfl rfl rfl rfl Tryz.func54 (by kernel_rfl) (by kernel_rfl) (by go_simp) ?_
   rintro e w1 ⟨v1, rfl, hB1, hb1⟩
   replace hrow := World.rowIs.of_block hrow (hb1.block _ hrow.lt)
   replace hb := hb.trans (hb1.mono hb.size)
   refine ⟨_, rfl, fun _ _ => True, fun _ _ => ⟨trivial, fun _ _ => trivial⟩, ?_⟩
   simp only [Act.put, List.setIfInBounds_toArray, List.set_cons_zero, List.set_cons_succ]
   refine lins_copy (some 33) (.tmp 29) (.tmp 32) 3 rfl rfl rfl rfl rfl hrow hB1 rfl rfl (by omega) 8 (by rw [bigB_length]; rfl) ?_
   intro w2 hr2 hg2 hs2
   refine ⟨fun _ _ => True, fun _ _ => ⟨trivial, fun _ _ => trivial⟩, ?_⟩
   try simp only [Act.put, List.setIfInBounds_toArray, List.set_cons_zero, List.set_cons_succ]
   refine lins_end ?_
   go_wp2
   go_ret
   refine ⟨_, rfl, Bs.of_part hr2 (endOf n 128) ?_ (by omega) (Nat.le_refl _) (by unfold maxLen; omega) ?_, hb.grown hg2 hb.size (by intro k hk; cases hk; omega), r, by rw [endOf_length _ _ (by omega), ← HR.out]; rfl⟩
   · rw [endOf_length _ _ (by omega), HR.out]
   · intro i hi
     rw [endOf_length _ _ (by omega)] at hi
     rw [← getD_of_lt _ i (by rw [endOf_length _ _ (by omega)]; exact hi), endOf_get n 128 i (by omega) hi, ← HR.out]
     rw [← HR.out] at hi
     rw [Nat.zero_add]
     unfold putN bytesAt
     by_cases e1 : i = 0
     · subst e1
       rw [if_neg (by omega), if_pos rfl]
       rfl
     · rw [if_neg e1]
       by_cases e2 : i < r - 8
       · rw [if_neg (by omega), if_pos e2]
         show (if i = 0 then _ else _) = _
         rw [if_neg e1]
         rfl
       · rw [if_pos (by omega), if_neg e2]
end Go.Proofs.YtonhpmaiagbheaaGreat
namespace Go.Proofs.YtonhpmaiagbheaaGreat
open Go.RowKit Go.Deep
def lst (B : Nat) (blk : Nat → UInt8) : List UInt8 := (List.range B).map blk
theorem lst_length (B : Nat) (blk : Nat → UInt8) : (lst B blk).length = B := by simp [lst]
theorem lst_get (B : Nat) (blk : Nat → UInt8) (i : Nat) (h : i < B) : (lst B blk)[i]? = some (blk i) := by simp [lst, h]
theorem lst_getD (B : Nat) (blk : Nat → UInt8) (i : Nat) (h : i < B) : (lst B blk).getD i 0 = blk i := by
 rw [List.getD_eq_getElem?_getD, lst_get B blk i h]; rfl
def patch (blk : Nat → UInt8) (k n : Nat) (cs : List UInt8) : Nat → UInt8 := fun i => if k ≤ i ∧ i < k + n then cs.getD (i - k) 0 else blk i
section
variable {n : Nat} (k : Kind n)
structure Dig (m : List UInt8) (s : S8 n) (blk : Nat → UInt8) : Prop where
 state : s = k.state m (m.length / k.block)
 begun : ∀ i, i < m.length % k.block → blk i = m.getD (k.block * (m.length / k.block) + i) 0
theorem Dig.short {k : Kind n} {m : List UInt8} {s : S8 n} {blk : Nat → UInt8} (h : Dig k m s blk) (l : List UInt8) (c : Nat) (hc : c ≤ l.length) (hb : m.length % k.block + c < k.block) :
   Dig k (m ++ l.take c) s (patch blk (m.length % k.block) c l) := by
 obtain ⟨h1, h2⟩ := h
 have hl : (m ++ l.take c).length = m.length + c := by simp; omega
 have hdm := Nat.div_add_mod m.length k.block
 have hq : (m.length + c) / k.block = m.length / k.block := by
   rw [Nat.div_eq_iff (by omega)]
   constructor
   · rw [Nat.mul_comm]; omega
   · rw [Nat.mul_comm]; omega
 have hr : (m.length + c) % k.block = m.length % k.block + c := by
   have h3 := Nat.div_add_mod (m.length + c) k.block
   rw [hq] at h3
   omega
 refine ⟨?_, fun i hi => ?_⟩
 · rw [hl, hq, k.state_append _ _ _ (by omega)]; exact h1
 · rw [hl, hr] at hi
   rw [hl, hq]
   unfold patch
   have e0 : (m ++ l.take c).getD (k.block * (m.length / k.block) + i) 0 = ((m ++ l.take c)[k.block * (m.length / k.block) + i]?).getD 0 := List.getD_eq_getElem?_getD
   rw [e0, List.getElem?_append]
   by_cases e : i < m.length % k.block
   · rw [if_neg (by omega), if_pos (by omega), h2 i e, List.getD_eq_getElem?_getD]
   · rw [if_pos (by omega), if_neg (by omega), List.getElem?_take_of_lt (by omega), List.getD_eq_getElem?_getD]
     congr 2
     omega
theorem Dig.full {k : Kind n} {m : List UInt8} {s : S8 n} {blk : Nat → UInt8} (h : Dig k m s blk) (l : List UInt8) (c : Nat) (hc : c ≤ l.length) (hb : m.length % k.block + c = k.block) (hk : 0 < k.block) :
   Dig k (m ++ l.take c) (k.press s (lst k.block (patch blk (m.length % k.block) c l))) (patch blk (m.length % k.block) c l) := by
 obtain ⟨h1, h2⟩ := h
 have hl : (m ++ l.take c).length = m.length + c := by simp; omega
 have hdm := Nat.div_add_mod m.length k.block
 have hmul : m.length + c = k.block * (m.length / k.block + 1) := by rw [Nat.mul_add]; omega
 have hq : (m.length + c) / k.block = m.length / k.block + 1 := by rw [hmul, Nat.mul_div_cancel_left _ hk]
 have hr : (m.length + c) % k.block = 0 := by rw [hmul, Nat.mul_mod_right]
 refine ⟨?_, fun i hi => by rw [hl, hr] at hi; omega⟩
 rw [hl, hq]
 show _ = k.press (k.state (m ++ l.take c) (m.length / k.block)) _
 rw [k.state_append _ _ _ (by omega), ← h1]
 congr 1
 apply List.ext_getElem?
 intro i
 rw [List.getElem?_take, List.getElem?_drop]
 by_cases hi : i < k.block
 · rw [lst_get _ _ _ hi, if_pos hi, List.getElem?_append]
   unfold patch
   by_cases e : i < m.length % k.block
   · rw [if_neg (by omega), if_pos (by omega), h2 i e, List.getD_eq_getElem?_getD, List.getElem?_eq_getElem (by omega)]; rfl
   · rw [if_pos (by omega), if_neg (by omega), List.getElem?_take_of_lt (by omega), List.getD_eq_getElem?_getD]
     rw [show k.block * (m.length / k.block) + i - m.length = i - m.length % k.block by omega]
     rw [List.getElem?_eq_getElem (by omega)]; rfl
 · rw [if_neg hi, List.getElem?_eq_none (by rw [lst_length]; omega)]
theorem Dig.sum {k : Kind n} {m : List UInt8} {s : S8 n} {blk : Nat → UInt8} (h : Dig k (m ++ endOf m.length k.block) s blk) : k.out s 8 = k.sum m := by
 rw [h.state]; rfl
end
end Go.Proofs.YtonhpmaiagbheaaGreat
namespace Go.Proofs.YtonhpmaiagbheaaGreat
open Go.RowKit Go.Deep
structure M512 (w : World) (x y : Nat) (s : S8 64) (blk : Nat → UInt8) (z : Nat) : Prop where
 ne : x ≠ y
 state : w.rowIs x 83 8 (w64 s.at)
 row : w.rowIs y 85 128 (u8f (lst 128 blk))
set_option maxHeartbeats 1600000 in
theorem press512_closure (x y : Nat) (s : S8 64) (blk : Nat → UInt8) (z : Nat) (w : World) (hM : M512 w x y s blk z) :
   Calls Tryz.prog 50 #[.pointer (some ⟨x, 0, none⟩), .pointer (some ⟨y, 0, none⟩)] w fun e w' => e = .returned (.tuple #[]) ∧ M512 w' x y (k512.press s (lst 128 blk)) blk z ∧ Tch x y w w' := by
 obtain ⟨hne, hS, hR⟩ := hM
 go_enter Tryz.func50, Tryz.ntmps50
 go_wp2_with (first
   | (refine wpList_load_arr rfl 83 (.tmp 0) rfl 8 arr8_64 hS rfl (by omega) ?_; simp only [Nat.zero_add])
   | (refine wpList_load_arr rfl 85 (.tmp 1) rfl 128 arrB_64 hR rfl (by omega) ?_; simp only [Nat.zero_add])
   | (go_at_call 51; refine (press512_any s (lst 128 blk) _ (lst_length _ _)).mono ?_; rintro e w2 ⟨rfl, hb2⟩
      replace hS := hS.of_block (hb2.block _ hS.lt)
      replace hR := hR.of_block (hb2.block _ hR.lt))
   | (refine wpList_store_arr rfl 83 (.tmp 0) (.tmp 4) rfl 8 arr8_64 hS rfl rfl (by omega) (fun _ _ => rfl) ?_; intro w3 hr3 hg3 hs3))
 go_end0
 refine ⟨rfl, ⟨hne, hr3.congr fun i hi => ?_, hR.of_block (hg3.block _ hR.lt (fun e => hne (Option.some.inj e).symm))⟩, (Tch.of_below hb2).trans (Tch.left hg3)⟩
 unfold putN
 rw [if_pos (by omega), Nat.sub_zero]
theorem putN_copy64 (s : S8 64) (blk : Nat → UInt8) (z k c : Nat) (l : List UInt8) (hk : k + c ≤ 128) (i : Nat) (hi : i < 128) : putN (u8f (lst 128 blk)) (0 + k) c (bytesAt l) i = u8f (lst 128 (patch blk k c l)) i := by
 unfold putN u8f bytesAt
 rw [lst_getD _ _ _ hi, lst_getD _ _ _ hi]
 unfold patch
 by_cases e : 0 + k ≤ i ∧ i < 0 + k + c
 · rw [if_pos e, if_pos (by omega), show i - (0 + k) = i - k by omega]
 · rw [if_neg e, if_neg (by omega)]
theorem M512.copied {w w' : World} {x y : Nat} {s : S8 64} {blk : Nat → UInt8} {z k c p : Nat} {l : List UInt8} (h : M512 w x y s blk z) (hp : p = 0 + k) (hk : k + c ≤ 128) (hr : w'.rowIs y 85 128 (putN (u8f (lst 128 blk)) p c (bytesAt l))) (hg : w.grownBy w' (some y)) : M512 w' x y s (patch blk k c l) z :=
 ⟨h.ne, h.state.of_block (hg.block _ h.state.lt (fun e => h.ne (Option.some.inj e))), hr.congr fun i hi => by rw [hp]; exact putN_copy64 s blk z k c l hk i hi⟩
set_option maxHeartbeats 4000000 in
theorem cut512_any (x y : Nat) (s : S8 64) (blk : Nat → UInt8) (z : Nat) (m l : List UInt8) (vb : Value) (w : World) (hM : M512 w x y s blk z) (hD : Dig k512 m s blk) (hB : Bs w vb l) (hx : Away vb x) (hy : Away vb y) (hlen : m.length + l.length < 2 ^ 60) :
   Calls Tryz.prog 52 #[.slice (some ⟨y, 0, none⟩) 128 128, .int .u64 m.length, vb, .func (.func 50) #[] #[.pointer (some ⟨x, 0, none⟩), .pointer (some ⟨y, 0, none⟩)]] w fun e w' =>
     e = .returned (.int .u64 ((m.length + l.length : Nat) : Int)) ∧ ∃ s' blk', M512 w' x y s' blk' z ∧ Dig k512 (m ++ l) s' blk' ∧ Tch x y w w' := by
 obtain ⟨ad0, n0, cap0, rfl, hn0, _, _, hB0⟩ := hB.shape
 go_enter Tryz.func52, Tryz.ntmps52
 clear hB
 have HB := Lib.hid hB0
 have HL := Lib.hid hn0
 have hn60 : m.length + n0 < 2 ^ 60 := by omega
 clear hB0 hn0
 go_wp2
 go_loopw [1, 2] (fun size b wr => ∃ (j : Nat) (ad : Option Addr) (cap : Nat) (s : S8 64) (blk : Nat → UInt8) (q : Nat), j ≤ n0 ∧ Hid ((m ++ l.take j).length = q) ∧ Hid (q = m.length + j) ∧ size = .int .u64 (q : Int) ∧ b = .slice ad (n0 - j) cap ∧
   Hid (Bs wr (.slice ad (n0 - j) cap) (l.drop j)) ∧ Away (.slice ad (n0 - j) cap) x ∧ Away (.slice ad (n0 - j) cap) y ∧ M512 wr x y s blk z ∧ Dig k512 (m ++ l.take j) s blk ∧ Tch x y w wr) (fun size _ _ => m.length + n0 - (intOf size).toNat)
 case atStart => exact ⟨0, ad0, cap0, s, blk, m.length, Nat.zero_le _, by rw [List.take_zero, List.append_nil]; rfl, rfl, rfl, rfl, HB.out, hx, hy, hM, by simpa using hD, Tch.refl _ _ _⟩
 case round =>
   clear hM hD HB
   obtain ⟨j, ad, cap, s, blk, q, hj, HQ, hq, rfl, rfl, HB, hax, hay, hM, hD, ht⟩ := hrel
   have hqb : q < 2 ^ 60 := by have := hq.out; omega
   by_cases hlt : j < n0
   · obtain ⟨k, hk⟩ : ∃ k, k = q % 128 := ⟨_, rfl⟩
     have hkB : k < 128 := by omega
     have kI : (q : Int) % 128 = (k : Int) := by omega
     obtain ⟨c, hc⟩ : ∃ c, c = Nat.min (n0 - j) (128 - k) := ⟨_, rfl⟩
     have hc1 : c ≤ n0 - j := by rw [hc]; exact Nat.min_le_left _ _
     have hc2 : c ≤ 128 - k := by rw [hc]; exact Nat.min_le_right _ _
     have hc3 : 0 < c := by rw [hc]; exact Nat.lt_min.2 ⟨by omega, by omega⟩
     have hpos : (0 : Int) < ((n0 - j : Nat) : Int) := by omega
     have HC := Lib.hid hc
     have HK := Lib.hid hk
     have hq60 : q + c < 2 ^ 60 := by have := hq.out; omega
     clear hk hc
     by_cases hfull : k + c = 128
     · have hz : ((q : Int) + (c : Int)) % 128 = 0 := by have := HK.out; omega
       go_wp2_with (first
         | refine wpList_op rfl (.slice 22 (.tmp 17) (some (.tmp 20)) none none) 22 (.slice (some ⟨y, 0 + k, none⟩) (128 - k) (128 - k)) rfl rfl (exec_sliceAt _ _ _ _ _ _ k Tryz.underlying22 (by kernel_rfl) rfl rfl rfl (by omega) (by omega) rfl rfl rfl) ?_
         | (refine wpList_copy_bytes rfl (.tmp 21) (.tmp 22) rfl hM.row HB.out rfl rfl (by omega) c (by rw [List.length_drop, HL.out]; exact HC.out) ?_; intro w2 hr2 hg2 hs2
            have hM2 := hM.copied (k := k) (by omega) (by omega) hr2 hg2
            have HB2 := Lib.hid (HB.out.touched (Tch.right hg2) hax hay)
            clear HB)
         | (refine wpList_bsFrom rfl (.tmp 24) (.tmp 25) rfl HB2.out c rfl rfl rfl (by omega) ?_; intro ad' had' hB3
            have HA := Lib.hid had'
            have HB3 := Lib.hid hB3
            clear had' hB3)
         | (go_at_call 50; refine (press512_closure x y s _ z _ hM2).mono ?_; rintro e w3 ⟨rfl, hM3, ht3⟩))
       go_roundw
       case rel =>
         have hdd : l.drop (j + c) = (l.drop j).drop c := by rw [List.drop_drop]
         have htt : m ++ l.take (j + c) = (m ++ l.take j) ++ (l.drop j).take c := by rw [List.append_assoc, List.take_add]
         have hmod : (m ++ l.take j).length % k512.block = k := by rw [HQ.out]; exact HK.out.symm
         refine ⟨j + c, ad', cap - c, _, _, q + c, by omega, ?_, by have := hq.out; show _ = _; omega, by go_num, by rw [Nat.sub_sub], ?_, ?_, ?_, hM3, ?_, (ht.trans (Tch.right hg2)).trans ht3⟩
         · show _ = _
           rw [htt, List.length_append, HQ.out, List.length_take, List.length_drop, HL.out]
           omega
         · rw [hdd, ← Nat.sub_sub]
           refine HB3.out.touched ht3 ?_ ?_
           · rw [HA.out]; exact hax.drop (by omega)
           · rw [HA.out]; exact hay.drop (by omega)
         · rw [HA.out]; exact hax.drop (by omega)
         · rw [HA.out]; exact hay.drop (by omega)
         · have hf := hD.full (l.drop j) c (by rw [List.length_drop, HL.out]; exact hc1) (by rw [hmod]; exact hfull) (by decide)
           rw [hmod] at hf
           rw [htt]
           exact hf
       case measure => have := hq.out; simp [intOf]; omega
     · have hzn : ((q : Int) + (c : Int)) % 128 = ((k + c : Nat) : Int) := by have := HK.out; omega
       have hz0 : ¬ ((k + c : Nat) : Int) = 0 := by omega
       go_wp2_with (first
         | refine wpList_op rfl (.slice 22 (.tmp 17) (some (.tmp 20)) none none) 22 (.slice (some ⟨y, 0 + k, none⟩) (128 - k) (128 - k)) rfl rfl (exec_sliceAt _ _ _ _ _ _ k Tryz.underlying22 (by kernel_rfl) rfl rfl rfl (by omega) (by omega) rfl rfl rfl) ?_
         | (refine wpList_copy_bytes rfl (.tmp 21) (.tmp 22) rfl hM.row HB.out rfl rfl (by omega) c (by rw [List.length_drop, HL.out]; exact HC.out) ?_; intro w2 hr2 hg2 hs2
            have hM2 := hM.copied (k := k) (by omega) (by omega) hr2 hg2
            have HB2 := Lib.hid (HB.out.touched (Tch.right hg2) hax hay)
            clear HB)
         | (refine wpList_bsFrom rfl (.tmp 24) (.tmp 25) rfl HB2.out c rfl rfl rfl (by omega) ?_; intro ad' had' hB3
            have HA := Lib.hid had'
            have HB3 := Lib.hid hB3
            clear had' hB3))
       go_roundw
       case rel =>
         have hdd : l.drop (j + c) = (l.drop j).drop c := by rw [List.drop_drop]
         have htt : m ++ l.take (j + c) = (m ++ l.take j) ++ (l.drop j).take c := by rw [List.append_assoc, List.take_add]
         have hmod : (m ++ l.take j).length % k512.block = k := by rw [HQ.out]; exact HK.out.symm
         refine ⟨j + c, ad', cap - c, _, _, q + c, by omega, ?_, by have := hq.out; show _ = _; omega, by go_num, by rw [Nat.sub_sub], ?_, ?_, ?_, hM2, ?_, ht.trans (Tch.right hg2)⟩
         · show _ = _
           rw [htt, List.length_append, HQ.out, List.length_take, List.length_drop, HL.out]
           omega
         · rw [hdd, ← Nat.sub_sub]
           exact HB3.out
         · rw [HA.out]; exact hax.drop (by omega)
         · rw [HA.out]; exact hay.drop (by omega)
         · have hf := hD.short (l.drop j) c (by rw [List.length_drop, HL.out]; exact hc1) (by rw [hmod]; show k + c < 128; omega)
           rw [hmod] at hf
           rw [htt]
           exact hf
       case measure => have := hq.out; simp [intOf]; omega
   · obtain rfl : j = n0 := by omega
     go_wp2
     go_ret
     refine ⟨?_, s, blk, hM, ?_, ht⟩
     · have e1 := hq.out
       have e2 := HL.out
       subst e2
       rw [e1]
       rfl
     · rw [← HL.out, List.take_length] at hD
       exact hD

theorem out_length {n : Nat} (k : Kind n) (s : S8 n) (b : Nat) (hb : k.bytes = b) : ∀ j, (k.out s j).length = b * j
 | 0 => rfl
 | j + 1 => by
   show (k.out s j ++ bigB (s.at j).toNat k.bytes).length = _
   rw [List.length_append, out_length k s b hb j, bigB_length, hb, Nat.mul_succ]
theorem Owns.below {w w' : World} {base : Nat} {v : Value} {l : List UInt8} (h : Owns w base v l) (hb : Below w.heap.size w w') : Owns w' base v l := by
 obtain ⟨h1, h2⟩ := h
 refine ⟨h1, ?_⟩
 rcases h2 with h2 | ⟨g, cap, cur, rfl, hbg, hg, h3⟩
 · exact .inl h2
 · exact .inr ⟨g, cap, cur, rfl, hbg, (hb.block g (Array.getElem?_eq_some_iff.1 hg).1).trans hg, h3⟩

theorem zero128 : (Tryz.prog.info? 85).map (fun i => i.zero) = some (some (.agg (arrOf 128 (u8f (lst 128 fun _ => 0))))) := by kernel_rfl
theorem M512.drew {w : World} {x y z : Nat} {s : S8 64} {blk : Nat → UInt8} (h : M512 w x y s blk z) : M512 w.drew x y s blk z := ⟨h.ne, h.state.drew, h.row.drew⟩
theorem M512.below {w w' : World} {x y z B : Nat} {s : S8 64} {blk : Nat → UInt8} (h : M512 w x y s blk z) (hb : Below B w w') (hB : w.heap.size ≤ B) : M512 w' x y s blk z :=
 ⟨h.ne, h.state.of_block (hb.block _ (Nat.lt_of_lt_of_le h.state.lt hB)), h.row.of_block (hb.block _ (Nat.lt_of_lt_of_le h.row.lt hB))⟩
theorem Away.of_slice {x : Addr} {n c b : Nat} (h : x.block ≠ b) : Away (.slice (some x) n c) b := fun x' n' c' he _ => by cases he; exact h
set_option maxHeartbeats 4000000 in
theorem sum512_any (v : Value) (L : List (List UInt8)) (w : World) (hv : Bss w v L) (hlen : L.flatten.length < 2 ^ 59) :
   Calls Tryz.prog 19 #[v] w fun e w' => ∃ v', e = .returned v' ∧ Bs w' v' (k512.sum L.flatten) ∧ Below w.heap.size w w' := by
 have HV := Lib.hid hv
 obtain ⟨a, cap, rfl, h1, h2, h3, h4⟩ := hv
 clear h3 h4
 unfold maxLen at h2
 have hmf : ∀ (fn : Fn) (first cap : Array Value) (w : World), (Instr.makeFunc fn first cap).run Tryz.prog w = .ok (.func fn first cap) w := fun _ _ _ _ => rfl
 go_enter Tryz.func19, Tryz.ntmps19
 go_wp2_with (first
   | (go_at_call 49; refine (start512_any _).mono ?_; rintro e w1 ⟨rfl, hb1⟩
      have hS0 := rowIs_arr w1 8 (fun _ => .int .u64 0) 83
      have hb := hb1.alloc hb1.size (.cells (arrOf 8 fun _ => .int .u64 0) 83)
      have hsz := hb1.size
      clear hb1)
   | refine wpList_alloc_arr rfl 83 rfl (arrOf 8 fun _ => .int .u64 0) zero8_64 ?_
   | (refine wpList_store_arr rfl 83 (.tmp 3) (.tmp 12) rfl 8 arr8_64 hS0 rfl rfl (by omega) (fun _ _ => rfl) ?_; intro w2 hr2 hg2 hs2
      have hM : M512 (w2.alloc (.cells (arrOf 128 (u8f (lst 128 fun _ => 0))) 85)) w1.heap.size w2.heap.size k512.first (fun _ => 0) 0 :=
        ⟨by rw [hs2, World.size_alloc]; omega, (hr2.congr fun i hi => by
           unfold putN
           rw [if_pos (by omega), Nat.sub_zero]
           show Value.int .u64 ((I64 i).toNat : Int) = Value.int .u64 (((S8.of I64).at i).toNat : Int)
           rw [S8.at_of _ _ hi]).alloc _, rowIs_arr w2 128 _ _⟩
      replace hb := (hb.grown hg2 hb.size (by intro k hk; cases hk; omega))
      replace hb := hb.alloc hb.size (.cells (arrOf 128 (u8f (lst 128 fun _ => 0))) 85)
      have hsz2 : w.heap.size ≤ w2.heap.size := by rw [hs2, World.size_alloc]; omega
      clear hr2 hg2 hs2 hS0)
   | refine wpList_alloc_arr rfl 85 rfl (arrOf 128 (u8f (lst 128 fun _ => 0))) zero128 ?_)
 generalize w1.heap.size = x at *
 generalize w2.heap.size = y at *
 go_loopw [6, 16] (fun size i wr => ∃ (j : Nat) (s : S8 64) (blk : Nat → UInt8) (q : Nat), j ≤ L.length ∧ i = .int .i64 j ∧ size = .int .u64 (q : Int) ∧ Hid ((catTo L j).length = q) ∧ M512 wr x y s blk 0 ∧ Dig k512 (catTo L j) s blk ∧ Below w.heap.size w wr) (fun _ i _ => L.length - (intOf i).toNat)
 case atStart => exact ⟨0, k512.first, fun _ => 0, 0, Nat.zero_le _, rfl, rfl, rfl, hM, (by rw [show catTo L 0 = [] from rfl]; exact ⟨rfl, fun i hi => by simp at hi⟩), hb⟩
 case round =>
   clear hM hb
   obtain ⟨j, s, blk, q, hj, rfl, rfl, HQ, hM, hD, hbel⟩ := hrel
   by_cases hlt : j < L.length
   · have hsum : (catTo L j).length + L[j].length ≤ L.flatten.length := by
       have := catTo_le L (j + 1)
       rw [catTo_succ L j hlt, List.length_append] at this
       exact this
     obtain ⟨b, off, cap', he, _, _, hbl, hc⟩ := HV.out.open_cons (by omega)
     cases he
     obtain ⟨u, hcj, hu⟩ := hc j hlt
     clear hc
     have hcr : wr.cell? ⟨b, off + j, none⟩ = some u := (hbel.cell (by exact hbl)).trans hcj
     have HU := Lib.hid (hu.below hbel (Nat.le_refl _))
     have HA1 : Away u x := hu.away hsz
     have HA2 : Away u y := hu.away hsz2
     clear hu
     have hcut := cut512_any x y s blk 0 (catTo L j) L[j] u wr hM hD HU.out HA1 HA2 (by omega)
     rw [HQ.out] at hcut
     go_wp2_with (first
       | refine wpList_op rfl (.slice 85 (.tmp 4) none none none) 22 (.slice (some ⟨y, 0, none⟩) 128 128) rfl rfl (exec_sliceAll _ _ _ _ _ Tryz.underlying85 (by kernel_rfl) rfl (by omega)) ?_
       | (go_at_call 52; refine hcut.mono ?_; rintro e w3 ⟨rfl, s3, blk3, hM3, hD3, ht3⟩))
     rw [← catTo_succ L j hlt] at hD3
     have hbel3 : Below w.heap.size w w3 := hbel.trans (ht3.below hsz hsz2 hbel.size)
     have HQ3 : Hid ((catTo L (j + 1)).length = q + L[j].length) := by
       show _ = _
       rw [catTo_succ L j hlt, List.length_append, HQ.out]
     clear hM hD hbel hcr HU HA1 HA2 ht3 hcut
     go_wp2
     go_roundw
     case rel => exact ⟨j + 1, s3, blk3, q + L[j].length, by omega, by go_num, rfl, HQ3, hM3, hD3, hbel3⟩
     case measure => simp [intOf]; omega
   · obtain rfl : j = L.length := by omega
     rw [catTo_all L L.length (Nat.le_refl _)] at hD HQ
     have hq59 : q < 2 ^ 59 := by have := HQ.out; omega
     go_wp2
     refine wp_region_lins [(0, some [5]), (1, some [5]), (2, some [3]), (4, some [5]), (3, none), (5, none)] (fun _ _ => True) (by kernel_rfl) (by kernel_rfl) (by decide) (by kernel_rfl) (fun d _ _ _ _ h => by cases d <;> exact h) (fun _ _ => trivial) ?_
     refine lins_read 26 (Op.slice 85 (Operand.tmp 4) none none none) 22 (.slice (some ⟨y, 0, none⟩) 128 128) rfl rfl rfl rfl rfl (fun w0 hw0 => by exact exec_sliceAll _ _ _ _ _ Tryz.underlying85 (by kernel_rfl) rfl (by omega)) ?_
     simp only [Act.put, List.setIfInBounds_toArray, List.set_cons_zero, List.set_cons_succ]
     refine lins_read 27 (Op.move (Operand.tmp 6)) 45 _ rfl rfl rfl rfl rfl (fun w0 hw0 => by unfold mkOp; go_simp; all_goals (with_reducible rfl)) ?_
     simp only [Act.put, List.setIfInBounds_toArray, List.set_cons_zero, List.set_cons_succ]
     refine lins_read 28 (Op.move (Operand.tmp 6)) 45 _ rfl rfl rfl rfl rfl (fun w0 hw0 => by unfold mkOp; go_simp; all_goals (with_reducible rfl)) ?_
     simp only [Act.put, List.setIfInBounds_toArray, List.set_cons_zero, List.set_cons_succ]
     refine lins_read 30 (Op.move (Operand.tmp 5)) 1 _ rfl rfl rfl rfl rfl (fun w0 hw0 => by unfold mkOp; go_simp; all_goals (with_reducible rfl)) ?_
     simp only [Act.put, List.setIfInBounds_toArray, List.set_cons_zero, List.set_cons_succ]
     refine lins_fn (some 29) 53 #[Operand.tmp 28, Operand.const (Value.int IntKind.i64 128)] #[45, 3] _ (ending128_any q _ (by omega)) rfl rfl rfl rfl Tryz.func53 (by kernel_rfl) (by kernel_rfl) (by go_simp) ?_
     rintro e w5 ⟨v5, rfl, hB5, hb5, c5, hv5⟩
     have hM5 := hM.drew.below hb5 (Nat.le_refl _)
     refine ⟨_, rfl, fun _ _ => True, fun _ _ => ⟨trivial, fun _ _ => trivial⟩, ?_⟩
     simp only [Act.put, List.setIfInBounds_toArray, List.set_cons_zero, List.set_cons_succ]
     refine lins_fn (some 31) 52 #[Operand.tmp 26, Operand.tmp 27, Operand.tmp 29, Operand.tmp 30] #[22, 45, 22, 1] _ (cut512_any x y s blk 0 L.flatten _ _ _ hM5 hD hB5 (hv5 ▸ Away.of_slice (by show wr.heap.size ≠ x; have := hM.state.lt; omega)) (hv5 ▸ Away.of_slice (by show wr.heap.size ≠ y; have := hM.row.lt; omega)) (by rw [endOf_length _ _ (by omega)]; have := (endRoom_ge q 128 (by omega)).2; have := HQ.out; omega)) rfl rfl rfl rfl Tryz.func52 (by kernel_rfl) (by kernel_rfl) (by rw [show L.flatten.length = q from HQ.out]; go_simp) ?_
     rintro e w6 ⟨rfl, s6, blk6, hM6, hD6, ht6⟩
     refine ⟨_, rfl, fun _ _ => True, fun _ _ => ⟨trivial, fun _ _ => trivial⟩, ?_⟩
     simp only [Act.put, List.setIfInBounds_toArray, List.set_cons_zero, List.set_cons_succ]
     refine lins_end ?_
     have hout : k512.out s6 8 = k512.sum L.flatten := Dig.sum (by have := hD6; rw [← HQ.out] at this; exact this)
     have hb6 : Below w.heap.size w w6 := (hbel.drew.trans (hb5.mono hbel.size)).trans (ht6.below hsz hsz2 (Nat.le_trans hbel.size hb5.size))
     have HS := Lib.hid hout
     clear hout hD6 hb5 hB5 hM5 hv5 hD HQ hM hbel ht6
     go_wp2_with (first
       | refine wpList_load_arr rfl 83 (.tmp 3) rfl 8 arr8_64 hM6.state rfl (by omega) ?_)
     go_loopw [9, 33] (fun out i wr => ∃ j : Nat, j ≤ 8 ∧ i = .int .i64 j ∧ Owns wr w.heap.size out (k512.out s6 j) ∧ Below w.heap.size w wr) (fun _ i _ => 8 - (intOf i).toNat)
     case atStart => exact ⟨0, Nat.zero_le _, rfl, Owns.nil _ _, hb6⟩
     case round =>
       clear hb6 hM6
       obtain ⟨j, hj, rfl, hown, hbel⟩ := hrel
       by_cases hlt : j < 8
       · have hw : w64 s6.at j = .int .u64 ((s6.at j).toNat : Int) := rfl
         have hol : (k512.out s6 j).length = 8 * j := out_length k512 s6 8 rfl j
         go_wp2_with (first
           | refine wpList_index_arr rfl 83 45 (.tmp 32) (.tmp 33) rfl 8 Tryz.underlying83 _ Tryz.underlying45 rfl (by kernel_rfl) rfl rfl hlt ?_
           | (go_at_call 54; refine (put64_any (s6.at j).toNat _ (s6.at j).isLt).mono ?_; rintro e w5 ⟨v5, rfl, hB5, hb5⟩
              have hown5 : Owns w5 w.heap.size _ (k512.out s6 j) := hown.below hb5
              have hbel5 := hbel.trans (hb5.mono hbel.size)
              clear hb5)
           | (refine wpList_app rfl _ _ rfl w.heap.size _ _ (k512.out s6 j) _ hown5 hB5 rfl rfl (by rw [hol, bigB_length]; omega) hbel5.size ?_; intro v6 w6 hown6 hgrow6))
         have hbel6 : Below w.heap.size w w6 := hbel5.grown hgrow6 hbel5.size (Owns.block hown5)
         clear hown5 hgrow6 hB5
         go_wp2
         go_roundw
         case rel => exact ⟨j + 1, by omega, by go_num, hown6, hbel6⟩
         case measure => simp [intOf]; omega
       · obtain rfl : j = 8 := by omega
         go_wp2
         go_ret
         exact ⟨_, rfl, by rw [← HS.out]; exact hown.bs, hbel⟩
theorem infoRow : (Tryz.prog.info? 22).map (fun i => (i.zero, i.size, i.bytes)) = some (some (.slice none 0 0), 1, 24) := by kernel_rfl
theorem Bss.cellsU {w : World} {x : Addr} {L : List (List UInt8)} (h : ∀ i (h : i < L.length), ∃ u, w.cell? (x.add i) = some u ∧ Bs w u L[i]) :
   ∃ us : List Value, us.length = L.length ∧ (∀ j u, us[j]? = some u → w.cell? (x.add j) = some u) ∧ ∀ j (hj : j < L.length), ∃ u, us[j]? = some u ∧ Bs w u L[j] := by
 refine ⟨(List.range L.length).map fun i => (w.cell? (x.add i)).getD undef, by simp, fun j u hj => ?_, fun j hj => ?_⟩
 · have hl : j < L.length := by have := (List.getElem?_eq_some_iff.1 hj).1; simpa using this
   obtain ⟨u', h1, _⟩ := h j hl
   rw [List.getElem?_map, List.getElem?_range hl, Option.map_some, h1, Option.getD_some] at hj
   rw [h1, hj]
 · obtain ⟨u', h1, h2⟩ := h j hj
   refine ⟨u', ?_, h2⟩
   rw [List.getElem?_map, List.getElem?_range hj, Option.map_some, h1, Option.getD_some]
set_option maxRecDepth 10000 in
theorem exec_appRows {w : World} (ρ : Operand → Value) (s x : Operand) (t : TypeId) (ad : Addr) (n : Nat) (v0 : Value) (A L : List (List UInt8)) (hA : Bss w (.slice (some ad) n n) A) (hL : Bss w v0 L) (hs : ρ s = .slice (some ad) n n) (hx : ρ x = v0) (hlen : A.length + L.length ≤ 2147483647) :
   ∃ v' w', (execOp ρ (mkOp (.call { callee := .builtin .append, args := #[s, x], argTypes := #[23, 23] }) t)).run Tryz.prog w = .ok (.value v') w' ∧ Bss w' v' (A ++ L) ∧ Below w.heap.size w w' := by
 obtain ⟨i0, hi, hz0, hz1, hz2⟩ := info_parts infoRow
 obtain ⟨a2, cap2, rfl, g1, g2, g3, g4⟩ := hL
 have hA' := hA
 obtain ⟨a1, cap1, he, k1, k2, k3, k4⟩ := hA'
 injection he with he1 he2 he3
 subst he1 he2 he3
 by_cases hL0 : L.length = 0
 · obtain rfl : L = [] := List.eq_nil_of_length_eq_zero hL0
   refine ⟨_, w, ?_, by rw [List.append_nil]; exact hA, Below.refl _ _⟩
   have hrun : (Builtin.append_ #[23, 23] t #[.slice (some ad) A.length A.length, .slice a2 0 cap2]).run Tryz.prog w = .ok (.slice (some ad) A.length A.length) w := by
     cases a2 <;> simp [Builtin.append_, run_underlying Tryz.underlying23, sizeOf, typeInfo, hi, Builtin.lenOf, Builtin.firstCells, storeCells, loadCells, loadCellsFrom]
   simp [execOp, mkOp, resolve, invoke, builtin, hs, hx, hrun, Result.andThen]
 · cases a2 with
   | none => exact absurd (by have := g3 rfl; omega) hL0
   | some a2 =>
     obtain ⟨us, u1, u2, u3⟩ := Bss.cellsU (fun i h => (k4 _ rfl i h).2)
     obtain ⟨vs, v1, v2, v3⟩ := Bss.cellsU (fun i h => (g4 _ rfl i h).2)
     obtain ⟨v', w', hrun, r1, r2⟩ := run_append_arg_grows (P := Tryz.prog) w 23 t 22 i0 (.slice none 0 0) 1 24 Tryz.underlying23 hi hz0 hz1 hz2 rfl (by decide) ad A.length A.length us (by omega) u2 a2 L.length cap2 vs (by omega) v2 (by omega) (by unfold maxLen; omega) (by omega)
     refine ⟨v', w', ?_, ?_, ⟨r2.os, r2.tape, r2.output, r2.size, fun k hk => r2.block k hk (by simp)⟩⟩
     · simp [execOp, mkOp, resolve, invoke, builtin, hs, hx, hrun, Result.andThen]
     · have hb : Below w.heap.size w w' := ⟨r2.os, r2.tape, r2.output, r2.size, fun k hk => r2.block k hk (by simp)⟩
       rcases r1.2 with ⟨_, hn⟩ | ⟨g, cap, cur, rfl, hbg, hg, hnc, hcm, hcs, htake⟩
       · omega
       · refine ⟨some ⟨g, 0, none⟩, cap, by rw [List.length_append], by rw [List.length_append]; exact hnc, hcm, fun h => (by cases h), fun x hx i hi => ?_⟩
         cases hx
         have hil : i < A.length + L.length := by rw [← List.length_append]; exact hi
         refine ⟨(Array.getElem?_eq_some_iff.1 hg).1, ?_⟩
         rw [Addr.add_lit, Nat.zero_add]
         have hc := World.ownsRow.cellAt r1 i (by omega)
         rw [hc]
         by_cases h : i < A.length
         · obtain ⟨u, e1, e2⟩ := u3 i h
           refine ⟨u, by rw [List.getElem?_append_left (by omega)]; exact e1, ?_⟩
           rw [List.getElem_append_left h]
           exact e2.below hb (Nat.le_refl _)
         · obtain ⟨u, e1, e2⟩ := v3 (i - A.length) (by omega)
           refine ⟨u, by rw [List.getElem?_append_right (by omega), u1]; exact e1, ?_⟩
           rw [List.getElem_append_right (by omega)]
           exact e2.below hb (Nat.le_refl _)
theorem wpList_appRows {ops : Array Oper} {rest : List Oper} {o : Oper} {a : Act} {w : World} {Q : Exit → Act → World → Prop} (hgd : o.guard = none) (s x : Operand) (ho : o.op = .call { callee := .builtin .append, args := #[s, x], argTypes := #[23, 23] })
   {ad : Addr} {n : Nat} {v0 : Value} {A L : List (List UInt8)} (hA : Bss w (.slice (some ad) n n) A) (hL : Bss w v0 L) (hlen : A.length + L.length ≤ 2147483647) (hs : a.eval s = .slice (some ad) n n) (hx : a.eval x = v0)
   (h : ∀ v w', Bss w' v (A ++ L) → Below w.heap.size w w' → wpList Tryz.prog ops Q rest (a.put o.dst v) w') : wpList Tryz.prog ops Q (o :: rest) a w := by
 obtain ⟨v', w', hr, h1, h2⟩ := exec_appRows a.eval s x o.type ad n v0 A L hA hL hs hx hlen
 exact wpList_plain hgd fun _ hK => by
   unfold Oper.wp
   rw [exec_mkOp, ho, hr]
   exact hK _ _ (h _ _ h1 h2)
theorem wpList_rowsF2 {ops : Array Oper} {rest : List Oper} {o : Oper} {a : Act} {w : World} {Q : Exit → Act → World → Prop} (hgd : o.guard = none) (x y : Operand) (ho : o.op = .buildSlice 23 2 #[(0, x), (1, y)]) {v1 v2 : Value} {l1 l2 : List UInt8} (h1 : Bs w v1 l1) (h2 : Bs w v2 l2) (hx : a.eval x = v1) (hy : a.eval y = v2)
   (h : ∀ ad w', Bss w' (.slice (some ad) 2 2) [l1, l2] → Below w.heap.size w w' → wpList Tryz.prog ops Q rest (a.put o.dst (.slice (some ad) 2 2)) w') : wpList Tryz.prog ops Q (o :: rest) a w := by
 have hr := exec_rowsP2 a.eval x y o.type w h1 h2 hx hy
 exact wpList_plain hgd fun _ hK => by
   unfold Oper.wp
   rw [exec_mkOp, ho, hr]
   exact hK _ _ (h _ _ (Bss.two h1 h2 rfl) ((Below.refl _ _).alloc (Nat.le_refl _) _))
set_option maxHeartbeats 4000000 in
set_option maxRecDepth 10000 in
theorem number_to (v0 : Value) (ad : Addr) (n : Nat) (A L : List (List UInt8)) (V : Nat) (w : World) (hL : Bss w v0 L) (hA : Bss w (.slice (some ad) n n) A) (hle : A.length + L.length ≤ 2147483647) (hll : (A ++ L).flatten.length < 2 ^ 59) (hN : numL (k512.sum (A ++ L).flatten) 64 % ordL = V) :
   Calls Tryz.prog 25 #[v0, .slice (some ad) n n] w fun e w' => e = .returned (.agg (arrOf 4 (ewF V))) ∧ Below w.heap.size w w' := by
 have HLE := Lib.hid hle
 have HLL := Lib.hid hll
 have HNV := Lib.hid hN
 have HA := Lib.hid hA
 clear hle hll hN hA
 have Bw0 := Below.refl w.heap.size w
 have HGS : Hid (∀ wq : World, Below w.heap.size w wq → w.heap.size ≤ wq.heap.size) := Lib.hid fun wq h => h.size
 go_enter Tryz.func25, Tryz.ntmps25
 go_wp2_with (first
   | (have hgo := Bw0; clear hgo
      refine wpList_alloc_row rfl 48 rfl 4 (u64f fun _ => 0) zeroS ?_
      intro b_t4 w1 lk r_t4 kk
      have l_t4 := zrl HGS Bw0 lk
      have Bw1 := zbt HGS Bw0 kk
      clear Bw0 kk lk)
   | (have hgo := Bw1; clear hgo
      refine wpList_appRows rfl (.tmp 5) (.tmp 6) rfl (HA.out.below Bw1 (Nat.le_refl _)) (hL.below Bw1 (Nat.le_refl _)) HLE.out rfl rfl ?_
      intro v_r7 w2 F_r7 kk
      replace r_t4 := zrb r_t4 kk
      have Bw2 := zbt HGS Bw1 kk
      clear Bw1 kk)
   | (have hgo := Bw2; clear hgo
      go_at_call 19
      refine (sum512_any _ _ _ F_r7 HLL.out).mono ?_
      rintro e w3 ⟨v_s, rfl, f_s, kk⟩
      replace r_t4 := zrb r_t4 kk
      have Bw3 := zbt HGS Bw2 kk
      clear Bw2 kk
      clear F_r7)
   | (have hgo := Bw3; clear hgo
      go_at_call 55
      refine (sWide_to _ _ _ f_s V HNV.out).mono ?_
      rintro e w4 ⟨rfl, kk⟩
      replace r_t4 := zrb r_t4 kk
      replace f_s := zfb f_s kk
      have Bw4 := zbt HGS Bw3 kk
      clear Bw3 kk)
   | (have hgo := Bw4; clear hgo
      refine wpList_store_as rfl 48 (.tmp 4) (.tmp 9) rfl 4 (ewF V) arrS r_t4 rfl rfl (by omega) (fun _ _ => rfl) (fun i hi => putN_whole hi) ?_
      intro w5 q gk
      replace r_t4 := q
      have Bw5 := zbg HGS Bw4 gk l_t4
      clear f_s
      clear Bw4 gk q))
 exact ret_cell_as _ rfl arrS r_t4 rfl (by omega) (fun _ _ => rfl) rfl ⟨rfl, Bw5⟩
theorem clampL_eq (l : List UInt8) (h : l.length = 32) (x y : Nat) (hx : x = (l.getD 0 0).toNat) (hy : y = (l.getD 31 0).toNat) : (l.set 0 (UInt8.ofNat (x / 8 * 8))).set 31 (UInt8.ofNat (y % 64 + 64)) = litB (clampN l) 32 := by
 refine List.ext_getElem (by simp [litB_length, h]) fun i h1 h2 => ?_
 have hi : i < 32 := by simpa [litB_length] using h2
 have e : (litB (clampN l) 32)[i]'h2 = UInt8.ofNat (byteN (clampN l) i) := by
   rw [litB_at]
   unfold byteN
   apply UInt8.toNat_inj.1
   rw [UInt8.toNat_ofNat', UInt8.toNat_ofNat', Nat.mod_mod]
 rw [e, List.getElem_set]
 by_cases h31 : 31 = i
 · subst h31
   rw [if_pos rfl, clamp_high, hy]
 · rw [if_neg h31, List.getElem_set]
   by_cases h0 : 0 = i
   · subst h0
     rw [if_pos rfl, clamp_low, hx]
   · rw [if_neg h0, clamp_mid l i (by omega) (by omega), List.getD_eq_getElem?_getD, List.getElem?_eq_getElem (by omega), Option.getD_some, UInt8.ofNat_toNat]
theorem andNot7E (x : Nat) (h : x < 256) : bits .andNot .u8 (x : Int) 7 = ((x / 8 * 8 : Nat) : Int) := by
 have g : ∀ q : Fin 256, bits .andNot .u8 ((q.val : Nat) : Int) 7 = ((q.val / 8 * 8 : Nat) : Int) := by decide +kernel
 exact g ⟨x, h⟩
theorem and127E (x : Nat) (h : x < 256) : bits .and .u8 (x : Int) 127 = ((x % 128 : Nat) : Int) := by
 have g : ∀ q : Fin 256, bits .and .u8 ((q.val : Nat) : Int) 127 = ((q.val % 128 : Nat) : Int) := by decide +kernel
 exact g ⟨x, h⟩
theorem or64E (x : Nat) (h : x < 256) : bits .or .u8 ((x % 128 : Nat) : Int) 64 = ((x % 64 + 64 : Nat) : Int) := by
 have g : ∀ q : Fin 256, bits .or .u8 ((q.val % 128 : Nat) : Int) 64 = ((q.val % 64 + 64 : Nat) : Int) := by decide +kernel
 exact g ⟨x, h⟩
set_option maxHeartbeats 4000000 in
set_option maxRecDepth 10000 in
theorem clamped_to (v0 : Value) (l0 : List UInt8) (V : Nat) (w : World) (h0 : Bs w v0 l0) (hl : l0.length = 32) (hN : numL (litB (clampN l0) 32) 64 % ordL = V) :
   Calls Tryz.prog 20 #[v0] w fun e w' => e = .returned (.agg (arrOf 4 (ewF V))) ∧ Below w.heap.size w w' := by
 have HL := Lib.hid hl
 have HNV := Lib.hid hN
 have HF_b0 := Lib.hid h0
 have f_b0 := h0
 obtain ⟨x, hx⟩ := nat_var ((l0.getD 0 0).toNat)
 obtain ⟨y, hy⟩ := nat_var ((l0.getD 31 0).toNat)
 have hxl : x < 256 := by rw [hx]; exact UInt8.toNat_lt _
 have hyl : y < 256 := by rw [hy]; exact UInt8.toNat_lt _
 have a1 := andNot7E x hxl
 have a2 := and127E y hyl
 have a3 := or64E y hyl
 have HCL := Lib.hid (clampL_eq l0 hl x y hx hy)
 obtain ⟨u, hu⟩ := nat_var (x / 8 * 8)
 obtain ⟨z, hz⟩ := nat_var (y % 128)
 obtain ⟨s, hs⟩ := nat_var (y % 64 + 64)
 rw [← hu] at a1 HCL
 rw [← hz] at a2 a3
 rw [← hs] at a3 HCL
 have HUL : Hid (u < 256) := Lib.hid (by omega)
 have HSL : Hid (s < 256) := Lib.hid (by omega)
 have HX : Hid (∀ h : 0 < l0.length, (l0[0]'h).toNat = x) := Lib.hid fun h => by rw [hx, List.getD_eq_getElem?_getD, List.getElem?_eq_getElem h]; rfl
 have HY : Hid (∀ h : 31 < (l0.set 0 (UInt8.ofNat u)).length, ((l0.set 0 (UInt8.ofNat u))[31]'h).toNat = y) := Lib.hid fun h => by rw [List.getElem_set_ne (by decide), hy, List.getD_eq_getElem?_getD, List.getElem?_eq_getElem (by rw [hl]; decide)]; rfl
 have HL2 : Hid ((l0.set 0 (UInt8.ofNat u)).length = 32) := Lib.hid (by rw [List.length_set, HL.out])
 clear h0 hN hx hy hxl hyl hu hz hs hl
 have Bw0 := Below.refl w.heap.size w
 have HGS : Hid (∀ wq : World, Below w.heap.size w wq → w.heap.size ≤ wq.heap.size) := Lib.hid fun wq h => h.size
 go_enter Tryz.func20, Tryz.ntmps20
 go_wp2_with (first
   | (have hgo := Bw0; clear hgo
      refine wpList_alloc_row rfl 48 rfl 4 (u64f fun _ => 0) zeroS ?_
      intro b_t2 w1 lk r_t2 kk
      have l_t2 := zrl HGS Bw0 lk
      have a_b0_t2 := Bs.away f_b0 lk
      replace f_b0 := zfb f_b0 kk
      have Bw1 := zbt HGS Bw0 kk
      clear Bw0 kk lk)
   | (have hgo := Bw1; clear hgo
      refine wpList_rows1 rfl (.tmp 3) rfl f_b0 rfl ?_
      intro v_r4 w2 F_r4 kk
      replace r_t2 := zrb r_t2 kk
      replace f_b0 := zfb f_b0 kk
      have Bw2 := zbt HGS Bw1 kk
      clear Bw1 kk)
   | (have hgo := Bw2; clear hgo
      go_at_call 21
      refine (cat_any _ _ _ F_r4 (by rw [List.flatten_singleton, HL.out]; decide)).mono ?_
      rintro e w3 ⟨v_c, rfl, o_c, kk⟩
      rw [List.flatten_singleton] at o_c
      clear F_r4
      obtain ⟨g, cap, hv, hg, hgs, _, _⟩ := o_c.open_cons (by rw [HL.out]; decide)
      rw [HL.out] at hv
      subst hv
      have n_c : b_t2 ≠ g := Nat.ne_of_lt (Nat.lt_of_lt_of_le (World.rowIs.lt r_t2) hg)
      have HCAP : Hid (32 ≤ cap) := Lib.hid (owns_cap o_c)
      have HGB : Hid (w.heap.size ≤ g) := Lib.hid (Nat.le_trans (HGS.out _ Bw2) hg)
      replace o_c := o_c.lower (HGS.out _ Bw2)
      clear hg hgs
      replace r_t2 := zrb r_t2 kk
      replace f_b0 := zfb f_b0 kk
      have Bw3 := zbt HGS Bw2 kk
      clear Bw2 kk)
   | (have hgo := Bw3; clear hgo
      refine wpList_load_byte rfl (.tmp 7) rfl 0 x o_c HL.out.symm (by rw [HL.out]; decide) rfl (HX.out _) ?_
      have Bw4 := Bw3
      clear Bw3)
   | (have hgo := Bw4; clear hgo
      refine wpList_store_byte rfl (.tmp 10) (.tmp 9) rfl 0 u o_c HL.out.symm HCAP.out (by rw [HL.out]; decide) rfl rfl HUL.out ?_
      intro w4 o_d gk
      have Bw5 := Bw4.grown gk (HGS.out _ Bw4) (by intro k hk; cases hk; exact HGB.out)
      replace r_t2 := gb_rowIs r_t2 gk n_c
      replace f_b0 := HF_b0.out.below Bw5 (Nat.le_refl _)
      clear Bw4 gk o_c )
   | (have hgo := Bw5; clear hgo
      refine wpList_load_byte rfl (.tmp 19) rfl 31 y o_d HL2.out.symm (by rw [HL2.out]; decide) rfl (HY.out _) ?_
      have Bw6 := Bw5
      clear Bw5)
   | (have hgo := Bw6; clear hgo
      refine wpList_store_byte rfl (.tmp 23) (.tmp 22) rfl 31 s o_d HL2.out.symm HCAP.out (by rw [HL2.out]; decide) rfl rfl HSL.out ?_
      intro w5 o_e gk
      have Bw7 := Bw6.grown gk (HGS.out _ Bw6) (by intro k hk; cases hk; exact HGB.out)
      replace r_t2 := gb_rowIs r_t2 gk n_c
      replace f_b0 := HF_b0.out.below Bw7 (Nat.le_refl _)
      have f_d := o_e.bs
      rw [HCL.out] at f_d
      clear Bw6 gk o_d o_e)
   | (have hgo := Bw7; clear hgo
      go_at_call 55
      refine (sWide_to _ _ _ f_d V HNV.out).mono ?_
      rintro e w6 ⟨rfl, kk⟩
      replace r_t2 := zrb r_t2 kk
      replace f_b0 := zfb f_b0 kk
      replace f_d := zfb f_d kk
      have Bw8 := zbt HGS Bw7 kk
      clear Bw7 kk)
   | (have hgo := Bw8; clear hgo
      refine wpList_store_as rfl 48 (.tmp 2) (.tmp 25) rfl 4 (ewF V) arrS r_t2 rfl rfl (by omega) (fun _ _ => rfl) (fun i hi => putN_whole hi) ?_
      intro w7 q gk
      replace r_t2 := q
      have Bw9 := zbg HGS Bw8 gk l_t2
      replace f_b0 := gb_bs f_b0 gk a_b0_t2
      clear f_d
      clear Bw8 gk q))
 exact ret_cell_as _ rfl arrS r_t2 rfl (by omega) (fun _ _ => rfl) rfl ⟨rfl, Bw9⟩
end Go.Proofs.YtonhpmaiagbheaaGreat
namespace Go.Proofs.YtonhpmaiagbheaaGreat
open Go.RowKit Go.Deep
theorem sum512_length (l : List UInt8) : (k512.sum l).length = 64 := out_length k512 _ 8 rfl 8
def edA (seed : List UInt8) : Nat := numL (litB (clampN ((k512.sum seed).take 32)) 32) 64 % ordL
def edPub (seed : List UInt8) : List UInt8 := litB (encA (pmul dP bT (edA seed))) 32
def edK (rr pub text : List UInt8) : Nat := numL (k512.sum [rr, pub, text].flatten) 64 % ordL
theorem edA_lt (s : List UInt8) : edA s < ordL := Nat.mod_lt _ ordL_pos
theorem edK_lt (r p t : List UInt8) : edK r p t < ordL := Nat.mod_lt _ ordL_pos
theorem edPub_length (s : List UInt8) : (edPub s).length = 32 := litB_length _ _
def edSame (pub sig text : List UInt8) : Bool := pSame (pmul dP bT ((strictSN (sig.drop 32)).getD 0)) (padd dP (dT (sig.take 32)) (pmul dP (dT pub) (edK (sig.take 32) pub text)))
def edVer (pub sig text : List UInt8) : Int :=
 if decE pub = 12 then 12 else if pSmall (dT pub) = true then 12 else if sig.length ≠ 64 then 3 else if decE (sig.take 32) = 12 then 3 else if (strictSN (sig.drop 32)).isSome = false then 3 else if edSame pub sig text = true then 0 else 3
theorem exec_notb {w : World} (ρ : Operand → Value) (x : Operand) (t : TypeId) (b : Bool) (hx : ρ x = .bool b) : (execOp ρ (mkOp (.unOp .not 4 x) t)).run Tryz.prog w = .ok (.value (.bool (!b))) w := by
 simp only [execOp, mkOp, hx]
 go_simp
section
variable {pub sig text : List UInt8}
theorem edVer_1 (h : decE pub = 12) : edVer pub sig text = 12 := if_pos h
theorem edVer_2 (h : decE pub = 0) (hs : pSmall (dT pub) = true) : edVer pub sig text = 12 := (if_neg (by rw [h]; decide)).trans (if_pos hs)
theorem edVer_3 (h : decE pub = 0) (hs : pSmall (dT pub) = false) (hn : sig.length ≠ 64) : edVer pub sig text = 3 := (if_neg (by rw [h]; decide)).trans ((if_neg (by rw [hs]; decide)).trans (if_pos hn))
theorem edVer_more (h : decE pub = 0) (hs : pSmall (dT pub) = false) (hn : sig.length = 64) : edVer pub sig text = if decE (sig.take 32) = 12 then 3 else if (strictSN (sig.drop 32)).isSome = false then 3 else if edSame pub sig text = true then 0 else 3 :=
 (if_neg (by rw [h]; decide)).trans ((if_neg (by rw [hs]; decide)).trans (if_neg fun k => k hn))
theorem edVer_4 (h : decE pub = 0) (hs : pSmall (dT pub) = false) (hn : sig.length = 64) (hr : decE (sig.take 32) = 12) : edVer pub sig text = 3 := (edVer_more h hs hn).trans (if_pos hr)
theorem edVer_5 (h : decE pub = 0) (hs : pSmall (dT pub) = false) (hn : sig.length = 64) (hr : decE (sig.take 32) = 0) (hg : (strictSN (sig.drop 32)).isSome = false) : edVer pub sig text = 3 := (edVer_more h hs hn).trans ((if_neg (by rw [hr]; decide)).trans (if_pos hg))
theorem edVer_6 (h : decE pub = 0) (hs : pSmall (dT pub) = false) (hn : sig.length = 64) (hr : decE (sig.take 32) = 0) (hg : (strictSN (sig.drop 32)).isSome = true) (b : Bool) (he : edSame pub sig text = b) : edVer pub sig text = if b = true then 0 else 3 := by
 subst he
 exact (edVer_more h hs hn).trans ((if_neg (by rw [hr]; decide)).trans (if_neg (by rw [hg]; decide)))
theorem decE_twoN (l : List UInt8) : decE l = 12 ∨ decE l = 0 := by
 unfold decE
 cases decN l with
 | none => exact .inl rfl
 | some _ => exact .inr rfl
end
end Go.Proofs.YtonhpmaiagbheaaGreat
namespace Go.Proofs.YtonhpmaiagbheaaGreat
open Go.RowKit Go.Deep


theorem enc_q {K : Nat} (h : K < ordL) : encQ (qMul bT K) = encA (pmul dP bT K) := by
 rw [(RQ.base.mul h).enc, (RT.base.mul (Nat.lt_trans h ordL_256)).enc]
theorem edPub_q (s : List UInt8) : litB (encQ (qMul bT (edA s))) 32 = edPub s := by
 unfold edPub
 rw [enc_q (edA_lt s)]
theorem small_q (l : List UInt8) : qSmall (eT l) = pSmall (dT l) := by rw [(RQ.dec l).small, (RT.dec l).small]
theorem strictN_lt (l : List UInt8) : (strictSN l).getD 0 < ordL := by
 unfold strictSN
 by_cases h : l.length = 32 ∧ numL l 32 < ordL
 · rw [if_pos h, Option.getD_some]
   exact h.2
 · rw [if_neg h, Option.getD_none]
   exact ordL_pos
theorem edSame_eq (pub sig text : List UInt8) : edSame pub sig text = decide (mulE ((strictSN (sig.drop 32)).getD 0) ptB = addE (decP (sig.take 32)) (mulE (edK (sig.take 32) pub text) (decP pub))) := by
 unfold edSame
 exact (RT.base.mul (Nat.lt_trans (strictN_lt _) ordL_256)).same ((RT.dec _).add ((RT.dec pub).mul (Nat.lt_trans (edK_lt _ _ _) ordL_256)))
theorem same_q (pub sig text : List UInt8) : qSame (qMul bT ((strictSN (sig.drop 32)).getD 0)) (qAdd (eT (sig.take 32)) (qMul (eT pub) (edK (sig.take 32) pub text))) = edSame pub sig text := by
 rw [edSame_eq]
 exact (RQ.base.mul (strictN_lt _)).same ((RQ.dec _).add ((RQ.dec pub).mul (edK_lt _ _ _)))
def sgF (A : Nat) (p q : Value) : Nat → Value := fun i => if i < 4 then ewF A i else if i = 4 then p else q
theorem builtSg0 (A : Nat) (a1 a2 : Option Addr) (n1 c1 n2 c2 : Nat) : Tryz.prog.built 57 [(0, .agg (arrOf 4 (ewF A))), (1, .slice a1 n1 c1), (2, .slice a2 n2 c2)] = some (arrOf 6 (sgF A (.slice a1 n1 c1) (.slice a2 n2 c2))) := by kernel_rfl
theorem builtSg (A : Nat) {w : World} {p q : Value} {l m : List UInt8} (h : Bs w p l) (k : Bs w q m) : Tryz.prog.built 57 [(0, .agg (arrOf 4 (ewF A))), (1, p), (2, q)] = some (arrOf 6 (sgF A p q)) := by
 obtain ⟨a1, c1, rfl, _⟩ := h
 obtain ⟨a2, c2, rfl, _⟩ := k
 exact builtSg0 A a1 a2 _ c1 _ c2
def SgAt (w : World) (v : Value) (s : List UInt8) : Prop :=
 ∃ (b : Nat) (p : Value) (ad : Addr) (cap : Nat), v = .pointer (some ⟨b, 0, none⟩) ∧ w.rowIs b 57 6 (sgF (edA s) p (.slice (some ad) 32 cap)) ∧ Bs w p ((k512.sum s).drop 32) ∧ Bs w (.slice (some ad) 32 cap) (edPub s)
theorem SgAt.belowJ {w w' : World} {v : Value} {s : List UInt8} (h : SgAt w v s) (hb : Below w.heap.size w w') : SgAt w' v s := by
 obtain ⟨b, p, ad, cap, h1, h2, h3, h4⟩ := h
 exact ⟨b, p, ad, cap, h1, zrb h2 hb, h3.below hb (Nat.le_refl _), h4.below hb (Nat.le_refl _)⟩
theorem SgAt.drew {w : World} {v : Value} {s : List UInt8} (h : SgAt w v s) : SgAt w.drew v s := h
theorem SgAt.of {w : World} {b : Nat} {p q : Value} {s : List UInt8} {A : Nat} (hA : A = edA s) (h : w.rowIs b 57 6 (sgF A p q)) (hp : Bs w p ((k512.sum s).drop 32)) (hq : Bs w q (edPub s)) : SgAt w (.pointer (some ⟨b, 0, none⟩)) s := by
 rw [hA] at h
 have hq' := hq
 obtain ⟨a, cap, rfl, h1, h2, h3, h4⟩ := hq'
 rw [edPub_length] at h1 h hq
 cases a with
 | none => exact absurd h1 (by rw [h3 rfl]; decide)
 | some ad => exact ⟨b, p, ad, cap, rfl, h, hp, hq⟩
theorem sum512_one (v : Value) (l : List UInt8) (w : World) (hv : Bss w v [l]) (hlen : l.length < 2 ^ 59) : Calls Tryz.prog 19 #[v] w fun e w' => ∃ v', e = .returned v' ∧ Bs w' v' (k512.sum l) ∧ Below w.heap.size w w' := by
 have g := sum512_any v [l] w hv (by rw [List.flatten_singleton]; exact hlen)
 rwa [List.flatten_singleton] at g
theorem cat_one (v : Value) (l : List UInt8) (w : World) (hv : Bss w v [l]) (hlen : l.length ≤ 2147483647) : Calls Tryz.prog 21 #[v] w fun e w' => ∃ v', e = .returned v' ∧ Owns w' w.heap.size v' l ∧ Below w.heap.size w w' := by
 have g := cat_any v [l] w hv (by rw [List.flatten_singleton]; exact hlen)
 rwa [List.flatten_singleton] at g
theorem stp_box_row {P : Program} {ops : Array Oper} {Q : Exit → Act → World → Prop} {i : Nat} {r : Stp} {a : Act} {w : World} {o : Oper} (d : Nat) (ty : TypeId) (x : Operand) (t : TypeId) (k : Nat) (f : Nat → Value) (ho : ops[i]? = some o) (hd : o.dst = some d) (hop : o.op = .box ty x) (ht : o.type = t)
   (hw : Region.wanted o (yielded ops a.tmps) = true) (hx : a.eval x = .agg (arrOf k f)) (h : ∀ b w', w.heap.size ≤ b → w'.rowIs b ty k f → Below w.heap.size w w' → LinT P ops Q r (a.put (some d) (.pointer (some ⟨b, 0, none⟩))) w') :
   wpOp P ops Q i (fun a' w' => Below w.heap.size w w' ∧ LinT P ops Q r a' w') a w := by
 have hb : Below w.heap.size w (w.alloc (.cells (arrOf k f) ty)) := (Below.refl _ _).alloc (Nat.le_refl _) _
 have hr : (execOp a.eval (mkOp (.box ty x) t)).run P w = .ok (.value (.pointer (some ⟨w.heap.size, 0, none⟩))) (w.alloc (.cells (arrOf k f) ty)) := by
   unfold execOp mkOp
   simp [hx, Instr.box, newVar, newRow, newObj, Value.cells, Result.andThen]
   rfl
 exact stp_made d _ t _ _ ho hd hop ht hw hr hb (h _ _ (Nat.le_refl _) (rowIs_arr _ _ _ _) hb)
set_option maxHeartbeats 4000000 in
set_option maxRecDepth 10000 in
theorem newSigner_no (v0 : Value) (l0 : List UInt8) (w : World) (h0 : Bs w v0 l0) (hl : ¬ l0.length = 32) : Calls Tryz.prog 9 #[v0] w fun e w' => e = .returned (.tuple #[.pointer none, .int .i64 1]) ∧ Below w.heap.size w w' := by
 obtain ⟨ad0, n0, c0, rfl, e0, y0, z0, hB0⟩ := h0.shape
 have q0 : ¬ (n0 : Int) = 32 := by omega
 clear h0 hB0
 have Bw0 := Below.refl w.heap.size w
 have HGS : Hid (∀ wq : World, Below w.heap.size w wq → w.heap.size ≤ wq.heap.size) := Lib.hid fun wq h => h.size
 go_enter Tryz.func9, Tryz.ntmps9
 go_wp2
 go_ret2
 exact ⟨rfl, Bw0⟩
set_option maxHeartbeats 4000000 in
set_option maxRecDepth 10000 in
theorem newSigner_yes (v0 : Value) (l0 : List UInt8) (w : World) (h0 : Bs w v0 l0) (hl : l0.length = 32) : Calls Tryz.prog 9 #[v0] w fun e w' => ∃ v, e = .returned (.tuple #[v, .int .i64 0]) ∧ SgAt w' v l0 ∧ Below w.heap.size w w' := by
 have HL := Lib.hid hl
 have h0' := h0
 obtain ⟨gb, off, c0, rfl, y0, z0, hgb, hcells⟩ := h0'.open_n hl (by decide)
 have f_b0 := h0
 obtain ⟨A, hA⟩ := nat_var (edA l0)
 have HNA : Hid (numL (litB (clampN ((k512.sum (l0)).take 32)) 32) 64 % ordL = A) := Lib.hid hA.symm
 have HA : Hid (A < ordL) := Lib.hid (by rw [hA]; exact edA_lt _)
 have HEA := Lib.hid hA
 have HM := Lib.hid fun w => qTMul_any bT A w LtT.base
 obtain ⟨pA, hpA⟩ : ∃ p, p = qMul bT A := ⟨_, rfl⟩
 have HPA : Hid (LtT pA) := Lib.hid (by rw [hpA]; exact LtT.oft _ _ _)
 have HE := Lib.hid fun w => qTEncode_any pA w HPA.out
 have heq : litB (encQ pA) 32 = edPub l0 := by rw [hpA, hA]; exact edPub_q l0
 rw [← hpA] at HM
 rw [heq] at HE
 have HCUT : Hid (32 ≤ (k512.sum (l0)).length) := Lib.hid (by rw [sum512_length]; decide)
 have HTL : Hid (((k512.sum (l0)).take 32).length = 32) := Lib.hid (by rw [List.length_take, sum512_length]; rfl)
 have HDL : Hid (((k512.sum (l0)).drop 32).length = 32) := Lib.hid (by rw [List.length_drop, sum512_length])
 clear h0 hl hA hpA heq hcells hgb
 have Bw0 := Below.refl w.heap.size w
 have HGS : Hid (∀ wq : World, Below w.heap.size w wq → w.heap.size ≤ wq.heap.size) := Lib.hid fun wq h => h.size
 have HF_b0 := Lib.hid f_b0
 go_enter Tryz.func9, Tryz.ntmps9
 go_wp2_with (first
   | (have hgo := Bw0; clear hgo
      refine wpList_rows1 rfl (.tmp 9) rfl f_b0 rfl ?_
      intro v_r10 w7 F_r10 kk
      replace f_b0 := zfb f_b0 kk
      have Bw1 := zbt HGS Bw0 kk
      clear Bw0 kk)
   | (have hgo := Bw1; clear hgo
      go_at_call 19
      refine (sum512_one _ (l0) _ F_r10 (by rw [HL.out]; decide)).mono ?_
      rintro e w8 ⟨v_s11, rfl, f_s11, kk⟩
      replace f_b0 := zfb f_b0 kk
      have Bw2 := zbt HGS Bw1 kk
      clear Bw1 kk)
   | (have hgo := Bw2; clear hgo
      obtain ⟨v_s13, f_s13, hr13⟩ := takeB f_s11 32 (HCUT.out)
      refine wpList_value rfl _ (by rw [exec_mkOp]; exact hr13 _ _ _ _ _ rfl rfl) ?_
      clear hr13
      have Bw3 := Bw2
      clear Bw2)
   | (have hgo := Bw3; clear hgo
      go_at_call 20
      refine (clamped_to _ _ A _ f_s13 HTL.out HNA.out).mono ?_
      rintro e w12 ⟨rfl, kk⟩
      replace f_b0 := zfb f_b0 kk
      replace f_s11 := zfb f_s11 kk
      replace f_s13 := zfb f_s13 kk
      have Bw4 := zbt HGS Bw3 kk
      clear Bw3 kk)
   | (have hgo := Bw4; clear hgo
      refine wpList_alloc_row rfl 48 rfl 4 (u64f fun _ => 0) zeroS ?_
      intro b_t5 w13 lk r_t5 kk
      have l_t5 := zrl HGS Bw4 lk
      have a_b0_t5 := Bs.away f_b0 lk
      have a_s11_t5 := Bs.away f_s11 lk
      have a_s13_t5 := Bs.away f_s13 lk
      replace f_b0 := zfb f_b0 kk
      replace f_s11 := zfb f_s11 kk
      replace f_s13 := zfb f_s13 kk
      have Bw5 := zbt HGS Bw4 kk
      clear Bw4 kk lk)
   | (have hgo := Bw5; clear hgo
      refine wpList_store_as rfl 48 (.tmp 5) (.tmp 14) rfl 4 (ewF A) arrS r_t5 rfl rfl (by omega) (fun _ _ => rfl) (fun i hi => putN_whole hi) ?_
      intro w14 q gk
      replace r_t5 := q
      have Bw6 := zbg HGS Bw5 gk l_t5
      replace f_b0 := gb_bs f_b0 gk a_b0_t5
      replace f_s11 := gb_bs f_s11 gk a_s11_t5
      replace f_s13 := gb_bs f_s13 gk a_s13_t5
      clear Bw5 gk q))
 clear f_b0 f_s13
 go_wp2
 have Bw7 := Bw6.drew
 replace r_t5 := World.rowIs.drew r_t5
 replace f_s11 := Bs.drew f_s11
 clear Bw6
 refine wp_region_lint (.rd 0 (.rd 1 (.rd 2 (.rd 6 (.wr 3 (.wr 4 (.wr 5 (.wr 7 (.wr 8 (.rd 9 (.wr 10 (.rd 11 (.rd 12 .done))))))))))))) (by kernel_rfl) (by kernel_rfl) (by decide) (by kernel_rfl) (fun d _ _ _ _ h => by cases d <;> exact h) ?_
 refine lint_pure 15 (Op.load 48 (Operand.tmp 5)) 48 (.agg (arrOf 4 (ewF A))) rfl rfl rfl rfl rfl (fun w0 hb0 => by exact exec_load_as _ _ _ _ (ewF A) rfl arrS (World.rowIs.of_block r_t5 (hb0.block _ (World.rowIs.lt r_t5))) (by omega) (fun i hi => by rw [Nat.zero_add])) ?_
 simp only [Act.put, zA, zB, zC]
 refine lint_pure 16 (Op.move (Operand.tmp 4)) 22 (v_s11) rfl rfl rfl rfl rfl (fun w0 hb0 => by unfold mkOp; go_simp; all_goals (with_reducible rfl)) ?_
 simp only [Act.put, zA, zB, zC]
 obtain ⟨v_s17, f_s17, hr17⟩ := dropB f_s11 32 (HCUT.out)
 refine lint_pure 17 (Op.slice 22 (Operand.tmp 16) (some (Operand.const (Value.int IntKind.i64 32))) none none) 22 v_s17 rfl rfl rfl rfl rfl (fun w0 hb0 => by exact hr17 _ _ _ _ w0 rfl rfl) ?_
 clear hr17
 simp only [Act.put, zA, zB, zC]
 refine lint_pure 21 (Op.load 48 (Operand.tmp 5)) 48 (.agg (arrOf 4 (ewF A))) rfl rfl rfl rfl rfl (fun w0 hb0 => by exact exec_load_as _ _ _ _ (ewF A) rfl arrS (World.rowIs.of_block r_t5 (hb0.block _ (World.rowIs.lt r_t5))) (by omega) (fun i hi => by rw [Nat.zero_add])) ?_
 simp only [Act.put, zA, zB, zC]
 refine stp_rows1 18 (.tmp 17) 23 rfl rfl rfl rfl rfl f_s17 rfl ?_
 intro w15 v_r18 F_r18 kk
 replace r_t5 := zrb r_t5 kk
 replace f_s11 := zfb f_s11 kk
 replace f_s17 := zfb f_s17 kk
 have Bw8 := zbt HGS Bw7 kk
 clear Bw7 kk
 simp only [Act.put, zA, zB, zC]
 refine stp_fn 19 21 #[Operand.tmp 18] #[23] _ (cat_one _ ((k512.sum (l0)).drop 32) _ F_r18 (by rw [HDL.out]; decide)) rfl rfl rfl rfl Tryz.func21 (by kernel_rfl) (by kernel_rfl) (by go_simp) ?_
 rintro e w16 ⟨v_s19, rfl, o_s19, kk⟩
 refine ⟨_, rfl, kk, ?_⟩
 replace r_t5 := zrb r_t5 kk
 replace f_s11 := zfb f_s11 kk
 replace f_s17 := zfb f_s17 kk
 have Bw9 := zbt HGS Bw8 kk
 clear Bw8 kk
 have f_s19 := o_s19.bs
 clear o_s19
 simp only [Act.put, zA, zB, zC]
 refine stp_fn 20 22 #[] #[] _ (qTBase_any _) rfl rfl rfl rfl Tryz.func22 (by kernel_rfl) (by kernel_rfl) (by go_simp) ?_
 rintro e w17 ⟨rfl, kk⟩
 refine ⟨_, rfl, kk, ?_⟩
 replace r_t5 := zrb r_t5 kk
 replace f_s11 := zfb f_s11 kk
 replace f_s17 := zfb f_s17 kk
 replace f_s19 := zfb f_s19 kk
 have Bw10 := zbt HGS Bw9 kk
 clear Bw9 kk
 simp only [Act.put, zA, zB, zC]
 refine stp_fn 22 23 #[Operand.tmp 20, Operand.tmp 21] #[53, 48] _ (HM.out _) rfl rfl rfl rfl Tryz.func23 (by kernel_rfl) (by kernel_rfl) (by go_simp) ?_
 rintro e w18 ⟨rfl, kk⟩
 refine ⟨_, rfl, kk, ?_⟩
 replace r_t5 := zrb r_t5 kk
 replace f_s11 := zfb f_s11 kk
 replace f_s17 := zfb f_s17 kk
 replace f_s19 := zfb f_s19 kk
 have Bw11 := zbt HGS Bw10 kk
 clear Bw10 kk
 simp only [Act.put, zA, zB, zC]
 refine stp_fn 23 24 #[Operand.tmp 22] #[53] _ (HE.out _ ) rfl rfl rfl rfl Tryz.func24 (by kernel_rfl) (by kernel_rfl) (by go_simp) ?_
 rintro e w19 ⟨v_s23, rfl, o_s23, kk⟩
 refine ⟨_, rfl, kk, ?_⟩
 replace r_t5 := zrb r_t5 kk
 replace f_s11 := zfb f_s11 kk
 replace f_s17 := zfb f_s17 kk
 replace f_s19 := zfb f_s19 kk
 have Bw12 := zbt HGS Bw11 kk
 clear Bw11 kk
 have f_s23 := o_s23.bs
 clear o_s23
 simp only [Act.put, zA, zB, zC]
 refine lint_pure 24 (Op.build 57 #[(0, Operand.tmp 15), (1, Operand.tmp 19), (2, Operand.tmp 23)]) 57 (.agg (arrOf 6 (sgF A v_s19 v_s23))) rfl rfl rfl rfl rfl (fun w0 hb0 => by refine exec_build_as _ _ _ ?_; simp only [List.map_toArray, List.map_cons, List.map_nil]; exact builtSg A f_s19 f_s23) ?_
 simp only [Act.put, zA, zB, zC]
 refine stp_box_row 25 57 (.tmp 24) 30 6 (sgF A v_s19 v_s23) rfl rfl rfl rfl rfl rfl ?_
 intro b_t25 w20 lk r_t25 kk
 have n_t5_t25 := zrn r_t5 lk
 have l_t25 := zrl HGS Bw12 lk
 have a_s11_t25 := Bs.away f_s11 lk
 have a_s17_t25 := Bs.away f_s17 lk
 have a_s19_t25 := Bs.away f_s19 lk
 have a_s23_t25 := Bs.away f_s23 lk
 replace r_t5 := zrb r_t5 kk
 replace f_s11 := zfb f_s11 kk
 replace f_s17 := zfb f_s17 kk
 replace f_s19 := zfb f_s19 kk
 replace f_s23 := zfb f_s23 kk
 have Bw13 := zbt HGS Bw12 kk
 clear Bw12 kk lk
 simp only [Act.put, zA, zB, zC]
 refine lint_pure 2 (Op.assign (Operand.tmp 25)) 30 (.pointer (some ⟨b_t25, 0, none⟩)) rfl rfl rfl rfl rfl (fun w0 hb0 => by unfold mkOp; go_simp; all_goals (with_reducible rfl)) ?_
 simp only [Act.put, zA, zB, zC]
 refine lint_pure 3 (Op.assign (Operand.const (Value.int IntKind.i64 0))) 26 ((.int .i64 0)) rfl rfl rfl rfl rfl (fun w0 hb0 => by unfold mkOp; go_simp; all_goals (with_reducible rfl)) ?_
 simp only [Act.put, zA, zB, zC]
 refine lint_end ?_
 go_wp2
 go_ret2
 exact ⟨_, rfl, SgAt.of HEA.out r_t25 f_s19 f_s23, Bw13⟩
set_option maxHeartbeats 4000000 in
set_option maxRecDepth 10000 in
theorem sgPublic_any (v0 : Value) (s0 : List UInt8) (w : World) (hs : SgAt w v0 s0) : Calls Tryz.prog 11 #[v0] w fun e w' => (∃ v', e = .returned v' ∧ Owns w' w.heap.size v' (edPub s0) ∧ Below w.heap.size w w') := by
 obtain ⟨b_sg, v_p, ad, cap, rfl, r_sg, f_p, f_q⟩ := hs
 have hlq := edPub_length s0
 obtain ⟨A, hA⟩ := nat_var (edA s0)
 have HA : Hid (A < ordL) := Lib.hid (by rw [hA]; exact edA_lt _)
 rw [← hA] at r_sg
 have HEA := Lib.hid hA
 clear hA
 have HLP := Lib.hid hlq
 clear hlq
 have Bw0 := Below.refl w.heap.size w
 have HGS : Hid (∀ wq : World, Below w.heap.size w wq → w.heap.size ≤ wq.heap.size) := Lib.hid fun wq h => h.size
 go_enter Tryz.func11, Tryz.ntmps11
 go_wp2_with (first
   | (have hgo := Bw0; clear hgo
      refine wpList_load_at rfl 22 (.tmp 7) rfl (.slice (some ad) 32 cap) (i := 5) r_sg rfl (by omega) rfl (by kernel_rfl) ?_
      have Bw1 := Bw0
      clear Bw0)
   | (have hgo := Bw1; clear hgo
      refine wpList_rows1 rfl (.tmp 8) rfl f_q rfl ?_
      intro v_r9 w8 F_r9 kk
      replace r_sg := zrb r_sg kk
      replace f_p := zfb f_p kk
      replace f_q := zfb f_q kk
      have Bw2 := zbt HGS Bw1 kk
      clear Bw1 kk)
   | (have hgo := Bw2; clear hgo
      go_at_call 21
      refine (cat_one _ (edPub s0) _ F_r9 (by rw [HLP.out]; decide)).mono ?_
      rintro e w9 ⟨v_s10, rfl, o_s10, kk⟩
      replace o_s10 := Owns.lower o_s10 (HGS.out _ Bw2)
      replace r_sg := zrb r_sg kk
      replace f_p := zfb f_p kk
      replace f_q := zfb f_q kk
      have Bw3 := zbt HGS Bw2 kk
      clear Bw2 kk
      have f_s10 := o_s10.bs))
 go_ret
 exact ⟨_, rfl, o_s10, Bw3⟩
set_option maxHeartbeats 4000000 in
set_option maxRecDepth 10000 in
theorem sgSign_nil (v1 : Value) (w : World) : Calls Tryz.prog 10 #[.pointer none, v1] w fun e w' => e = .returned (.slice none 0 0) ∧ Below w.heap.size w w' := by
 have Bw0 := Below.refl w.heap.size w
 have HGS : Hid (∀ wq : World, Below w.heap.size w wq → w.heap.size ≤ wq.heap.size) := Lib.hid fun wq h => h.size
 go_enter Tryz.func10, Tryz.ntmps10
 go_wp2
 go_ret
 exact ⟨rfl, Bw0⟩
theorem qDecodeE_any (v : Value) (l : List UInt8) (p : Nat × Nat × Nat) (e0 : Int) (w : World) (h : Bs w v l) (hp : eT l = p) (he : decE l = e0) : Calls Tryz.prog 39 #[v] w fun e w' => e = .returned (.tuple #[.agg (arrOf 12 (qT p)), .int .i64 e0]) ∧ Below w.heap.size w w' := by
 rw [← hp, ← he]
 exact qTDecode_any v l w h
theorem qSmallB_any (p : Nat × Nat × Nat) (b : Bool) (w : World) (h : LtT p) (hb : qSmall p = b) : Calls Tryz.prog 40 #[.agg (arrOf 12 (qT p))] w fun e w' => e = .returned (.bool b) ∧ Below w.heap.size w w' := by
 rw [← hb]
 exact qTSmall_any p w h
theorem sStrictE_any (v : Value) (l : List UInt8) (S : Nat) (e0 : Int) (w : World) (h : Bs w v l) (hS : (strictSN l).getD 0 = S) (he : strictNE (strictSN l) = e0) : Calls Tryz.prog 41 #[v] w fun e w' => e = .returned (.tuple #[.agg (arrOf 4 (ewF S)), .int .i64 e0]) ∧ Below w.heap.size w w' := by
 rw [← hS, ← he]
 exact sStrict_any v l w h
set_option maxHeartbeats 4000000 in
set_option maxRecDepth 10000 in
theorem public_yes (v0 : Value) (l0 : List UInt8) (w : World) (h0 : Bs w v0 l0) (hl : l0.length = 32) : Calls Tryz.prog 7 #[v0] w fun e w' => ∃ v, e = .returned (.tuple #[v, .int .i64 0]) ∧ Owns w' w.heap.size v (edPub l0) ∧ Below w.heap.size w w' := by
 have HL := Lib.hid hl
 have f_b0 := h0
 clear h0 hl
 have Bw0 := Below.refl w.heap.size w
 have HGS : Hid (∀ wq : World, Below w.heap.size w wq → w.heap.size ≤ wq.heap.size) := Lib.hid fun wq h => h.size
 have HF_b0 := Lib.hid f_b0
 go_enter Tryz.func7, Tryz.ntmps7
 go_wp2_with (first
   | (have hgo := Bw0; clear hgo
      go_at_call 9
      refine (newSigner_yes _ _ _ f_b0 HL.out).mono ?_
      rintro e w4 ⟨v_s8, rfl, g_s8, kk⟩
      replace f_b0 := zfb f_b0 kk
      have Bw1 := zbt HGS Bw0 kk
      clear Bw0 kk)
   | (have hgo := Bw1; clear hgo
      go_at_call 11
      refine (sgPublic_any _ _ _ g_s8).mono ?_
      rintro e w11 ⟨v_s12, rfl, o_s12, kk⟩
      replace o_s12 := Owns.lower o_s12 (HGS.out _ Bw1)
      replace f_b0 := zfb f_b0 kk
      replace g_s8 := g_s8.belowJ kk
      have Bw2 := zbt HGS Bw1 kk
      clear Bw1 kk
      have f_s12 := o_s12.bs))
 go_ret2
 exact ⟨_, rfl, o_s12, Bw2⟩
set_option maxHeartbeats 4000000 in
set_option maxRecDepth 10000 in
theorem sign_no (v0 : Value) (l0 : List UInt8) (v1 : Value) (w : World) (h0 : Bs w v0 l0) (hl : ¬ l0.length = 32) : Calls Tryz.prog 8 #[v0, v1] w fun e w' => e = .returned (.tuple #[.slice none 0 0, .int .i64 1]) ∧ Below w.heap.size w w' := by
 have HL := Lib.hid hl
 have f_b0 := h0
 clear h0 hl
 have Bw0 := Below.refl w.heap.size w
 have HGS : Hid (∀ wq : World, Below w.heap.size w wq → w.heap.size ≤ wq.heap.size) := Lib.hid fun wq h => h.size
 have HF_b0 := Lib.hid f_b0
 go_enter Tryz.func8, Tryz.ntmps8
 go_wp2_with (first
   | (have hgo := Bw0; clear hgo
      go_at_call 9
      refine (newSigner_no _ _ _ f_b0 HL.out).mono ?_
      rintro e w4 ⟨rfl, kk⟩
      replace f_b0 := zfb f_b0 kk
      have Bw1 := zbt HGS Bw0 kk
      clear Bw0 kk)
   | (have hgo := Bw1; clear hgo
      go_at_call 10
      refine (sgSign_nil _ _).mono ?_
      rintro e w12 ⟨rfl, kk⟩
      replace f_b0 := zfb f_b0 kk
      have Bw2 := zbt HGS Bw1 kk
      clear Bw1 kk))
 go_ret2
 exact ⟨rfl, Bw2⟩
set_option maxHeartbeats 4000000 in
set_option maxRecDepth 10000 in
theorem verify_more (v0 : Value) (l0 : List UInt8) (v1 : Value) (l1 : List UInt8) (v2 : Value) (L0 : List (List UInt8)) (w : World) (h0 : Bs w v0 l0) (h1 : Bs w v1 l1) (h2 : Bss w v2 L0) (hnl : 2 + L0.length ≤ 2147483647) (hl : l0.length + L0.flatten.length < 2 ^ 30) (hd : decE l0 = 0) (hs : pSmall (dT l0) = false) (hn : l1.length = 64) :
   Calls Tryz.prog 15 #[v0, v1, v2] w fun e w' => e = .returned (.int .i64 (edVer l0 l1 L0.flatten)) ∧ Below w.heap.size w w' := by
 obtain ⟨ad1, n1, c1, rfl, e1, y1, z1, hB1⟩ := h1.shape
 have d1' : n1 = 64 := by omega
 subst d1'
 obtain ⟨t0, ht⟩ : ∃ t, t = L0.flatten := ⟨_, rfl⟩
 obtain ⟨E, hE⟩ : ∃ E, E = edVer l0 l1 L0.flatten := ⟨_, rfl⟩
 rw [← hE]
 rw [← ht] at hE hl
 have HEV := Lib.hid hE
 obtain ⟨pP, hpP⟩ : ∃ p, p = eT l0 := ⟨_, rfl⟩
 have HpP : Hid (LtT pP) := Lib.hid (by rw [hpP]; exact LtT.read _)
 have HD := Lib.hid hd
 have HD1 := Lib.hid fun v w h => qDecodeE_any v l0 pP 0 w h hpP.symm hd
 have HS := Lib.hid hs
 have HSM := Lib.hid fun w => qSmallB_any pP false w HpP.out (by rw [hpP, small_q]; exact hs)
 obtain ⟨pQ, hpQ⟩ : ∃ p, p = eT (l1.take 32) := ⟨_, rfl⟩
 have HpQ : Hid (LtT pQ) := Lib.hid (by rw [hpQ]; exact LtT.read _)
 obtain ⟨d1, hd1⟩ : ∃ d, decE (l1.take 32) = d := ⟨_, rfl⟩
 have HR := Lib.hid hd1
 have HRT : Hid (d1 = 12 ∨ d1 = 0) := Lib.hid (by rw [← hd1]; exact decE_twoN _)
 have HD2 := Lib.hid fun v w h => qDecodeE_any v (l1.take 32) pQ d1 w h hpQ.symm hd1
 obtain ⟨S, hS⟩ := nat_var ((strictSN (l1.drop 32)).getD 0)
 obtain ⟨e2, he2⟩ : ∃ e, strictNE (strictSN (l1.drop 32)) = e := ⟨_, rfl⟩
 have HSC := Lib.hid fun v w h => sStrictE_any v (l1.drop 32) S e2 w h hS.symm he2
 have HG : Hid (e2 = 2 ∧ (strictSN (l1.drop 32)).isSome = false ∨ e2 = 0 ∧ (strictSN (l1.drop 32)).isSome = true) := Lib.hid (by
   rw [← he2]
   cases strictSN (l1.drop 32) with
   | none => exact .inl ⟨rfl, rfl⟩
   | some _ => exact .inr ⟨rfl, rfl⟩)
 have HLS := Lib.hid h2
 obtain ⟨K, hK⟩ := nat_var (edK (l1.take 32) l0 t0)
 have HF2 : Hid (([l1.take 32, l0] ++ L0).flatten = l1.take 32 ++ (l0 ++ t0)) := Lib.hid (by rw [ht, List.flatten_append]; simp only [List.flatten_cons, List.flatten_nil, List.append_nil, List.append_assoc])
 have HNK : Hid (numL (k512.sum ([l1.take 32, l0] ++ L0).flatten) 64 % ordL = K) := Lib.hid (by rw [HF2.out, hK]; unfold edK; simp only [List.flatten_cons, List.flatten_nil, List.append_nil])
 obtain ⟨sm, hsm⟩ : ∃ b, edSame l0 l1 t0 = b := ⟨_, rfl⟩
 have HSMB := Lib.hid hsm
 have hsame : qSame (qMul bT S) (qAdd pQ (qMul pP K)) = sm := by rw [hpP, hpQ, hS, hK, same_q]; exact hsm
 obtain ⟨pS, hpS⟩ : ∃ p, p = qMul bT S := ⟨_, rfl⟩
 obtain ⟨pK, hpK⟩ : ∃ p, p = qMul pP K := ⟨_, rfl⟩
 have HMS := Lib.hid fun w => qTMul_any bT S w LtT.base
 have HMK := Lib.hid fun w => qTMul_any pP K w HpP.out
 have HpS : Hid (LtT pS) := Lib.hid (by rw [hpS]; exact LtT.oft _ _ _)
 have HpK : Hid (LtT pK) := Lib.hid (by rw [hpK]; exact LtT.oft _ _ _)
 rw [← hpS] at HMS hsame
 rw [← hpK] at HMK hsame
 obtain ⟨pX, hpX⟩ : ∃ p, p = qAdd pQ pK := ⟨_, rfl⟩
 have HMX := Lib.hid fun w => qTAdd_any pQ pK w HpQ.out HpK.out
 have HpX : Hid (LtT pX) := Lib.hid (by rw [hpX]; exact LtT.qAdd _ _)
 rw [← hpX] at HMX hsame
 have HME := Lib.hid fun w => qTSame_to pS pX sm w HpS.out HpX.out hsame
 have HLE : Hid (l0.length + t0.length < 2 ^ 30) := Lib.hid hl
 have HN0 := Lib.hid hnl
 have HN1 : Hid (l1.length = 64) := Lib.hid e1
 clear hK hpS hpK hpX hsame ht hE hd hs hd1 hS he2 hsm hpP hpQ hl hnl e1 hn
 have f_s_0 := h0
 have HF_s_0 := Lib.hid h0
 have f_s_1 := hB1
 have HF_s_1 := Lib.hid hB1
 clear h0 h1 h2 hB1
 have Bw0 := Below.refl w.heap.size w
 have HGS : Hid (∀ wq : World, Below w.heap.size w wq → w.heap.size ≤ wq.heap.size) := Lib.hid fun wq h => h.size
 go_enter Tryz.func15, Tryz.ntmps15
 go_wp2_with (first
   | (have hgo := Bw0; clear hgo
      go_at_call 39
      refine (HD1.out _ _ f_s_0).mono ?_
      rintro e w3 ⟨rfl, kk⟩
      replace f_s_0 := zfb f_s_0 kk
      replace f_s_1 := zfb f_s_1 kk
      have Bw1 := zbt HGS Bw0 kk
      clear Bw0 kk)
   | (have hgo := Bw1; clear hgo
      refine wpList_alloc_row rfl 53 rfl 12 (u64f fun _ => 0) zeroQ ?_
      intro b_t7 w7 lk r_t7 kk
      have l_t7 := zrl HGS Bw1 lk
      have a_s_0_t7 := Bs.away f_s_0 lk
      have a_s_1_t7 := Bs.away f_s_1 lk
      replace f_s_0 := zfb f_s_0 kk
      replace f_s_1 := zfb f_s_1 kk
      have Bw2 := zbt HGS Bw1 kk
      clear Bw1 kk lk)
   | (have hgo := Bw2; clear hgo
      refine wpList_store_as rfl 53 (.tmp 7) (.tmp 15) rfl 12 (qT pP) arrQ r_t7 rfl rfl (by omega) (fun j _ => qF_one _ _ _ j) (fun i hi => putN_whole hi) ?_
      intro w8 q gk
      replace r_t7 := q
      have Bw3 := zbg HGS Bw2 gk l_t7
      replace f_s_0 := gb_bs f_s_0 gk a_s_0_t7
      replace f_s_1 := gb_bs f_s_1 gk a_s_1_t7
      clear Bw2 gk q)
   | (have hgo := Bw3; clear hgo
      refine wpList_load_asg rfl 53 (.tmp 7) rfl 12 (qT pP) arrQ r_t7 rfl (by omega) (fun i hi => by rw [Nat.zero_add]) ?_
      have Bw4 := Bw3
      clear Bw3)
   | (have hgo := Bw4; clear hgo
      go_at_call 40
      refine (HSM.out _).mono ?_
      rintro e w14 ⟨rfl, kk⟩
      replace r_t7 := zrb r_t7 kk
      replace f_s_0 := zfb f_s_0 kk
      replace f_s_1 := zfb f_s_1 kk
      have Bw5 := zbt HGS Bw4 kk
      clear Bw4 kk)
   | (have hgo := Bw5; clear hgo
      obtain ⟨v_s28, f_s28, hr28⟩ := takeB f_s_1 32 (by rw [HN1.out]; decide)
      refine wpList_value rfl _ (by rw [exec_mkOp]; exact hr28 _ _ _ _ _ rfl rfl) ?_
      clear hr28
      have Bw6 := Bw5
      clear Bw5)
   | (have hgo := Bw6; clear hgo
      go_at_call 39
      refine (HD2.out _ _ f_s28).mono ?_
      rintro e w21 ⟨rfl, kk⟩
      replace r_t7 := zrb r_t7 kk
      replace f_s_0 := zfb f_s_0 kk
      replace f_s_1 := zfb f_s_1 kk
      replace f_s28 := zfb f_s28 kk
      have Bw7 := zbt HGS Bw6 kk
      clear Bw6 kk
      rcases HRT.out with hr | hr <;> rw [hr] <;> replace hr := Lib.hid hr)
   | (have hgo := Bw7; clear hgo
      refine wpList_alloc_row rfl 53 rfl 12 (u64f fun _ => 0) zeroQ ?_
      intro b_t9 w25 lk r_t9 kk
      have n_t7_t9 := zrn r_t7 lk
      have l_t9 := zrl HGS Bw7 lk
      have a_s_0_t9 := Bs.away f_s_0 lk
      have a_s_1_t9 := Bs.away f_s_1 lk
      have a_s28_t9 := Bs.away f_s28 lk
      replace r_t7 := zrb r_t7 kk
      replace f_s_0 := zfb f_s_0 kk
      replace f_s_1 := zfb f_s_1 kk
      replace f_s28 := zfb f_s28 kk
      have Bw8 := zbt HGS Bw7 kk
      clear Bw7 kk lk)
   | (have hgo := Bw8; clear hgo
      refine wpList_store_as rfl 53 (.tmp 9) (.tmp 30) rfl 12 (qT pQ) arrQ r_t9 rfl rfl (by omega) (fun j _ => qF_one _ _ _ j) (fun i hi => putN_whole hi) ?_
      intro w26 q gk
      replace r_t7 := gb_rowIs r_t7 gk n_t7_t9
      replace r_t9 := q
      have Bw9 := zbg HGS Bw8 gk l_t9
      replace f_s_0 := gb_bs f_s_0 gk a_s_0_t9
      replace f_s_1 := gb_bs f_s_1 gk a_s_1_t9
      replace f_s28 := gb_bs f_s28 gk a_s28_t9
      clear Bw8 gk q)
   | (have hgo := Bw9; clear hgo
      obtain ⟨v_s36, f_s36, hr36⟩ := dropB f_s_1 32 (by rw [HN1.out]; decide)
      refine wpList_value rfl _ (by rw [exec_mkOp]; exact hr36 _ _ _ _ _ rfl rfl) ?_
      clear hr36
      have Bw10 := Bw9
      clear Bw9)
   | (have hgo := Bw10; clear hgo
      go_at_call 41
      refine (HSC.out _ _ f_s36).mono ?_
      rintro e w32 ⟨rfl, kk⟩
      replace r_t7 := zrb r_t7 kk
      replace r_t9 := zrb r_t9 kk
      replace f_s_0 := zfb f_s_0 kk
      replace f_s_1 := zfb f_s_1 kk
      replace f_s28 := zfb f_s28 kk
      replace f_s36 := zfb f_s36 kk
      have Bw11 := zbt HGS Bw10 kk
      clear Bw10 kk
      rcases HG.out with ⟨he, hg⟩ | ⟨he, hg⟩ <;> rw [he] <;> clear he <;> replace hg := Lib.hid hg)
   | (have hgo := Bw11; clear hgo
      refine wpList_alloc_row rfl 48 rfl 4 (u64f fun _ => 0) zeroS ?_
      intro b_t10 w36 lk r_t10 kk
      have n_t7_t10 := zrn r_t7 lk
      have n_t9_t10 := zrn r_t9 lk
      have l_t10 := zrl HGS Bw11 lk
      have a_s_0_t10 := Bs.away f_s_0 lk
      have a_s_1_t10 := Bs.away f_s_1 lk
      have a_s28_t10 := Bs.away f_s28 lk
      have a_s36_t10 := Bs.away f_s36 lk
      replace r_t7 := zrb r_t7 kk
      replace r_t9 := zrb r_t9 kk
      replace f_s_0 := zfb f_s_0 kk
      replace f_s_1 := zfb f_s_1 kk
      replace f_s28 := zfb f_s28 kk
      replace f_s36 := zfb f_s36 kk
      have Bw12 := zbt HGS Bw11 kk
      clear Bw11 kk lk)
   | (have hgo := Bw12; clear hgo
      refine wpList_store_as rfl 48 (.tmp 10) (.tmp 38) rfl 4 (ewF S) arrS r_t10 rfl rfl (by omega) (fun _ _ => rfl) (fun i hi => putN_whole hi) ?_
      intro w37 q gk
      replace r_t7 := gb_rowIs r_t7 gk n_t7_t10
      replace r_t9 := gb_rowIs r_t9 gk n_t9_t10
      replace r_t10 := q
      have Bw13 := zbg HGS Bw12 gk l_t10
      replace f_s_0 := gb_bs f_s_0 gk a_s_0_t10
      replace f_s_1 := gb_bs f_s_1 gk a_s_1_t10
      replace f_s28 := gb_bs f_s28 gk a_s28_t10
      replace f_s36 := gb_bs f_s36 gk a_s36_t10
      clear Bw12 gk q)
   | (have hgo := Bw13; clear hgo
      obtain ⟨v_s44, f_s44, hr44⟩ := takeB f_s_1 32 (by rw [HN1.out]; decide)
      refine wpList_value rfl _ (by rw [exec_mkOp]; exact hr44 _ _ _ _ _ rfl rfl) ?_
      clear hr44
      have Bw14 := Bw13
      clear Bw13)
   | (have hgo := Bw14; clear hgo
      refine wpList_rowsF2 rfl (.tmp 44) (.tmp 45) rfl f_s44 f_s_0 rfl rfl ?_
      intro ad45 w45 F_r kk
      replace r_t7 := zrb r_t7 kk
      replace r_t9 := zrb r_t9 kk
      replace r_t10 := zrb r_t10 kk
      replace f_s_0 := zfb f_s_0 kk
      replace f_s_1 := zfb f_s_1 kk
      replace f_s28 := zfb f_s28 kk
      replace f_s36 := zfb f_s36 kk
      replace f_s44 := zfb f_s44 kk
      have Bw15 := zbt HGS Bw14 kk
      clear Bw14 kk)
   | (have hgo := Bw15; clear hgo
      go_at_call 25
      refine (number_to _ _ _ [l1.take 32, l0] L0 K _ (HLS.out.below Bw15 (Nat.le_refl _)) F_r (by have := HN0.out; simp; omega) (by have := HLE.out; rw [HF2.out, List.length_append, List.length_append, List.length_take, HN1.out]; omega) HNK.out).mono ?_
      rintro e w46 ⟨rfl, kk⟩
      clear F_r
      replace r_t7 := zrb r_t7 kk
      replace r_t9 := zrb r_t9 kk
      replace r_t10 := zrb r_t10 kk
      replace f_s_0 := zfb f_s_0 kk
      replace f_s_1 := zfb f_s_1 kk
      replace f_s28 := zfb f_s28 kk
      replace f_s36 := zfb f_s36 kk
      replace f_s44 := zfb f_s44 kk
      have Bw16 := zbt HGS Bw15 kk
      clear Bw15 kk)
   | (have hgo := Bw16; clear hgo
      refine wpList_alloc_row rfl 48 rfl 4 (u64f fun _ => 0) zeroS ?_
      intro b_t11 w47 lk r_t11 kk
      have n_t7_t11 := zrn r_t7 lk
      have n_t9_t11 := zrn r_t9 lk
      have n_t10_t11 := zrn r_t10 lk
      have l_t11 := zrl HGS Bw16 lk
      have a_s_0_t11 := Bs.away f_s_0 lk
      have a_s_1_t11 := Bs.away f_s_1 lk
      have a_s28_t11 := Bs.away f_s28 lk
      have a_s36_t11 := Bs.away f_s36 lk
      have a_s44_t11 := Bs.away f_s44 lk
      replace r_t7 := zrb r_t7 kk
      replace r_t9 := zrb r_t9 kk
      replace r_t10 := zrb r_t10 kk
      replace f_s_0 := zfb f_s_0 kk
      replace f_s_1 := zfb f_s_1 kk
      replace f_s28 := zfb f_s28 kk
      replace f_s36 := zfb f_s36 kk
      replace f_s44 := zfb f_s44 kk
      have Bw17 := zbt HGS Bw16 kk
      clear Bw16 kk lk)
   | (have hgo := Bw17; clear hgo
      refine wpList_store_as rfl 48 (.tmp 11) (.tmp 47) rfl 4 (ewF K) arrS r_t11 rfl rfl (by omega) (fun _ _ => rfl) (fun i hi => putN_whole hi) ?_
      intro w48 q gk
      replace r_t7 := gb_rowIs r_t7 gk n_t7_t11
      replace r_t9 := gb_rowIs r_t9 gk n_t9_t11
      replace r_t10 := gb_rowIs r_t10 gk n_t10_t11
      replace r_t11 := q
      have Bw18 := zbg HGS Bw17 gk l_t11
      replace f_s_0 := gb_bs f_s_0 gk a_s_0_t11
      replace f_s_1 := gb_bs f_s_1 gk a_s_1_t11
      replace f_s28 := gb_bs f_s28 gk a_s28_t11
      replace f_s36 := gb_bs f_s36 gk a_s36_t11
      replace f_s44 := gb_bs f_s44 gk a_s44_t11
      clear Bw17 gk q))
 any_goals (go_ret; first | exact ⟨by rw [HEV.out.trans (edVer_4 HD.out HS.out HN1.out (HR.out.trans hr.out))]; rfl, Bw9⟩ | exact ⟨by rw [HEV.out.trans (edVer_5 HD.out HS.out HN1.out (HR.out.trans hr.out) hg.out)]; rfl, Bw13⟩)
 clear f_s_0 f_s_1 f_s28 f_s36 f_s44
 go_wp2
 have Bw19 := Bw18.drew
 replace r_t7 := World.rowIs.drew r_t7
 replace r_t9 := World.rowIs.drew r_t9
 replace r_t10 := World.rowIs.drew r_t10
 replace r_t11 := World.rowIs.drew r_t11
 clear Bw18
 refine zpo [] (.rd 1 (.rd 3 (.rd 4 (.rd 5 .done)))) #[false, true, false, true, true, true, false, false, false, false] [0, 2, 6, 7, 8, 9] [some 48, some 50, some 54, some 55, some 56, some 57] [[], [0], [1], [2], [1, 3], [4]] [(0, []), (1, []), (2, [0, 1, 0]), (3, []), (4, []), (5, []), (6, [4, 5, 2]), (7, [3, 6, 6]), (8, [2, 7, 7]), (9, [8])] 58 ?_
 refine zld (ewF S) arrS r_t10 rfl (fun i hi => by rw [Nat.zero_add]) rfl rfl rfl rfl rfl (by omega) ?_
 simp only [Act.put, zA, zB, zC]
 refine zld (qT pQ) arrQ r_t9 rfl (fun i hi => by rw [Nat.zero_add]) rfl rfl rfl rfl rfl (by omega) ?_
 refine zld (qT pP) arrQ r_t7 rfl (fun i hi => by rw [Nat.zero_add]) rfl rfl rfl rfl rfl (by omega) ?_
 refine zld (ewF K) arrS r_t11 rfl (fun i hi => by rw [Nat.zero_add]) rfl rfl rfl rfl rfl (by omega) ?_
 simp only [Act.put, zA, zB, zC]
 refine lintz_leaf ?_
 refine po_start [.val (.agg (arrOf 12 (qT bT))), .val (.agg (arrOf 12 (qT pS))), .val (.agg (arrOf 12 (qT pK))), .val (.agg (arrOf 12 (qT pX))), .val (.bool sm), .val (.bool (!sm))] [] (fun i hi => absurd hi (Nat.not_lt_zero _)) (fun HWF m gz wa p az hp hm hmp hcl hdn hE hJ hS hO => ?_) (fun gz wa hE hJ => ?_)
 · rcases (show p = 0 ∨ p = 1 ∨ p = 2 ∨ p = 3 ∨ p = 4 ∨ p = 5 by have h9 : p < 6 := hp; omega) with rfl | rfl | rfl | rfl | rfl | rfl
   · exact po_k HWF hJ hE (qTBase_any _) rfl rfl rfl rfl rfl rfl (ar0)
   · have e49 : az.eval (.tmp 49) = .agg (arrOf 4 (ewF S)) := hO 49 rfl
     exact po_k HWF hJ hE (HMS.out _) rfl rfl rfl rfl rfl rfl (ar2 (po_e hS hdn hJ 0 48 rfl rfl rfl rfl) e49)
   · have e52 : az.eval (.tmp 52) = .agg (arrOf 12 (qT pP)) := hO 52 rfl
     have e53 : az.eval (.tmp 53) = .agg (arrOf 4 (ewF K)) := hO 53 rfl
     exact po_k HWF hJ hE (HMK.out _) rfl rfl rfl rfl rfl rfl (ar2 e52 e53)
   · have e51 : az.eval (.tmp 51) = .agg (arrOf 12 (qT pQ)) := hO 51 rfl
     exact po_k HWF hJ hE (HMX.out _) rfl rfl rfl rfl rfl rfl (ar2 e51 (po_e hS hdn hJ 2 54 rfl rfl rfl rfl))
   · exact po_k HWF hJ hE (HME.out _) rfl rfl rfl rfl rfl rfl (ar2 (po_e hS hdn hJ 1 50 rfl rfl rfl rfl) (po_e hS hdn hJ 3 55 rfl rfl rfl rfl))
   · exact po_p _ HWF hJ hE rfl rfl rfl rfl rfl rfl rfl (exec_notb _ _ _ _ (po_e hS hdn hJ 4 56 rfl rfl rfl rfl))
 · rw [putO_true _ _ _ _ _ rfl]
   simp only [putA, Nat.zero_add, Nat.reduceAdd]
   rw [hJ.tt 0 rfl, hJ.tt 1 rfl, hJ.tt 2 rfl, hJ.tt 3 rfl, hJ.tt 4 rfl, hJ.tt 5 rfl]
   simp only [Act.put, zA, zB, zC]
   refine po_end ?_
   replace r_t7 := Keep.row hE r_t7 rfl
   replace r_t9 := Keep.row hE r_t9 rfl
   replace r_t10 := Keep.row hE r_t10 rfl
   replace r_t11 := Keep.row hE r_t11 rfl
   have Bw20 := hE.below Bw19 (HGS.out _ Bw19) rfl
   clear Bw19 hE hJ 
   have hv := Lib.hid <| edVer_6 HD.out HS.out HN1.out (HR.out.trans hr.out) hg.out sm HSMB.out
   cases sm
   · simp only [Bool.not_false]
     go_wp2
     go_ret
     exact ⟨by rw [HEV.out.trans hv.out]; rfl, Bw20⟩
   · simp only [Bool.not_true]
     go_wp2
     go_ret
     exact ⟨by rw [HEV.out.trans hv.out]; rfl, Bw20⟩
set_option maxHeartbeats 4000000 in
set_option maxRecDepth 10000 in
theorem verify_1 (v0 : Value) (l0 : List UInt8) (v1 : Value) (l1 : List UInt8) (v2 : Value) (L0 : List (List UInt8)) (w : World) (h0 : Bs w v0 l0) (h1 : Bs w v1 l1) (h2 : Bss w v2 L0) (hnl : 2 + L0.length ≤ 2147483647) (hl : l0.length + L0.flatten.length < 2 ^ 30) (hd : decE l0 = 12) : Calls Tryz.prog 15 #[v0, v1, v2] w fun e w' => e = .returned (.int .i64 12) ∧ Below w.heap.size w w' := by
 obtain ⟨ad1, n1, c1, rfl, e1, y1, z1, hB1⟩ := h1.shape
 obtain ⟨pP, hpP⟩ : ∃ p, p = eT l0 := ⟨_, rfl⟩
 have HpP : Hid (LtT pP) := Lib.hid (by rw [hpP]; exact LtT.read _)
 have HD1 := Lib.hid fun v w h => qDecodeE_any v l0 pP 12 w h hpP.symm hd
 have f_s_0 := h0
 have HF_s_0 := Lib.hid h0
 have f_s_1 := hB1
 have HF_s_1 := Lib.hid hB1
 clear h0 h1 h2 hB1 hpP hd hl hnl e1
 have Bw0 := Below.refl w.heap.size w
 have HGS : Hid (∀ wq : World, Below w.heap.size w wq → w.heap.size ≤ wq.heap.size) := Lib.hid fun wq h => h.size
 go_enter Tryz.func15, Tryz.ntmps15
 go_wp2_with (first
   | (have hgo := Bw0; clear hgo
      go_at_call 39
      refine (HD1.out _ _ f_s_0).mono ?_
      rintro e w3 ⟨rfl, kk⟩
      replace f_s_0 := zfb f_s_0 kk
      replace f_s_1 := zfb f_s_1 kk
      have Bw1 := zbt HGS Bw0 kk
      clear Bw0 kk)
   | (have hgo := Bw1; clear hgo
      refine wpList_alloc_row rfl 53 rfl 12 (u64f fun _ => 0) zeroQ ?_
      intro b_t7 w7 lk r_t7 kk
      have l_t7 := zrl HGS Bw1 lk
      have a_s_0_t7 := Bs.away f_s_0 lk
      have a_s_1_t7 := Bs.away f_s_1 lk
      replace f_s_0 := zfb f_s_0 kk
      replace f_s_1 := zfb f_s_1 kk
      have Bw2 := zbt HGS Bw1 kk
      clear Bw1 kk lk)
   | (have hgo := Bw2; clear hgo
      refine wpList_store_as rfl 53 (.tmp 7) (.tmp 15) rfl 12 (qT pP) arrQ r_t7 rfl rfl (by omega) (fun j _ => qF_one _ _ _ j) (fun i hi => putN_whole hi) ?_
      intro w8 q gk
      replace r_t7 := q
      have Bw3 := zbg HGS Bw2 gk l_t7
      replace f_s_0 := gb_bs f_s_0 gk a_s_0_t7
      replace f_s_1 := gb_bs f_s_1 gk a_s_1_t7
      clear Bw2 gk q))
 go_ret
 exact ⟨rfl, Bw3⟩
set_option maxHeartbeats 4000000 in
set_option maxRecDepth 10000 in
theorem verify_2 (v0 : Value) (l0 : List UInt8) (v1 : Value) (l1 : List UInt8) (v2 : Value) (L0 : List (List UInt8)) (w : World) (h0 : Bs w v0 l0) (h1 : Bs w v1 l1) (h2 : Bss w v2 L0) (hnl : 2 + L0.length ≤ 2147483647) (hl : l0.length + L0.flatten.length < 2 ^ 30) (hd : decE l0 = 0) (hs : pSmall (dT l0) = true) : Calls Tryz.prog 15 #[v0, v1, v2] w fun e w' => e = .returned (.int .i64 12) ∧ Below w.heap.size w w' := by
 obtain ⟨ad1, n1, c1, rfl, e1, y1, z1, hB1⟩ := h1.shape
 obtain ⟨pP, hpP⟩ : ∃ p, p = eT l0 := ⟨_, rfl⟩
 have HpP : Hid (LtT pP) := Lib.hid (by rw [hpP]; exact LtT.read _)
 have HD1 := Lib.hid fun v w h => qDecodeE_any v l0 pP 0 w h hpP.symm hd
 have HSM := Lib.hid fun w => qSmallB_any pP true w HpP.out (by rw [hpP, small_q]; exact hs)
 have f_s_0 := h0
 have HF_s_0 := Lib.hid h0
 have f_s_1 := hB1
 have HF_s_1 := Lib.hid hB1
 clear h0 h1 h2 hB1 hpP hd hl hnl e1 hs
 have Bw0 := Below.refl w.heap.size w
 have HGS : Hid (∀ wq : World, Below w.heap.size w wq → w.heap.size ≤ wq.heap.size) := Lib.hid fun wq h => h.size
 go_enter Tryz.func15, Tryz.ntmps15
 go_wp2_with (first
   | (have hgo := Bw0; clear hgo
      go_at_call 39
      refine (HD1.out _ _ f_s_0).mono ?_
      rintro e w3 ⟨rfl, kk⟩
      replace f_s_0 := zfb f_s_0 kk
      replace f_s_1 := zfb f_s_1 kk
      have Bw1 := zbt HGS Bw0 kk
      clear Bw0 kk)
   | (have hgo := Bw1; clear hgo
      refine wpList_alloc_row rfl 53 rfl 12 (u64f fun _ => 0) zeroQ ?_
      intro b_t7 w7 lk r_t7 kk
      have l_t7 := zrl HGS Bw1 lk
      have a_s_0_t7 := Bs.away f_s_0 lk
      have a_s_1_t7 := Bs.away f_s_1 lk
      replace f_s_0 := zfb f_s_0 kk
      replace f_s_1 := zfb f_s_1 kk
      have Bw2 := zbt HGS Bw1 kk
      clear Bw1 kk lk)
   | (have hgo := Bw2; clear hgo
      refine wpList_store_as rfl 53 (.tmp 7) (.tmp 15) rfl 12 (qT pP) arrQ r_t7 rfl rfl (by omega) (fun j _ => qF_one _ _ _ j) (fun i hi => putN_whole hi) ?_
      intro w8 q gk
      replace r_t7 := q
      have Bw3 := zbg HGS Bw2 gk l_t7
      replace f_s_0 := gb_bs f_s_0 gk a_s_0_t7
      replace f_s_1 := gb_bs f_s_1 gk a_s_1_t7
      clear Bw2 gk q)
   | (have hgo := Bw3; clear hgo
      refine wpList_load_asg rfl 53 (.tmp 7) rfl 12 (qT pP) arrQ r_t7 rfl (by omega) (fun i hi => by rw [Nat.zero_add]) ?_
      have Bw4 := Bw3
      clear Bw3)
   | (have hgo := Bw4; clear hgo
      go_at_call 40
      refine (HSM.out _).mono ?_
      rintro e w14 ⟨rfl, kk⟩
      replace r_t7 := zrb r_t7 kk
      replace f_s_0 := zfb f_s_0 kk
      replace f_s_1 := zfb f_s_1 kk
      have Bw5 := zbt HGS Bw4 kk
      clear Bw4 kk))
 go_ret
 exact ⟨rfl, Bw5⟩
set_option maxHeartbeats 4000000 in
set_option maxRecDepth 10000 in
theorem verify_3 (v0 : Value) (l0 : List UInt8) (v1 : Value) (l1 : List UInt8) (v2 : Value) (L0 : List (List UInt8)) (w : World) (h0 : Bs w v0 l0) (h1 : Bs w v1 l1) (h2 : Bss w v2 L0) (hnl : 2 + L0.length ≤ 2147483647) (hl : l0.length + L0.flatten.length < 2 ^ 30) (hd : decE l0 = 0) (hs : pSmall (dT l0) = false) (hn : ¬ l1.length = 64) : Calls Tryz.prog 15 #[v0, v1, v2] w fun e w' => e = .returned (.int .i64 3) ∧ Below w.heap.size w w' := by
 obtain ⟨ad1, n1, c1, rfl, e1, y1, z1, hB1⟩ := h1.shape
 obtain ⟨pP, hpP⟩ : ∃ p, p = eT l0 := ⟨_, rfl⟩
 have HpP : Hid (LtT pP) := Lib.hid (by rw [hpP]; exact LtT.read _)
 have HD1 := Lib.hid fun v w h => qDecodeE_any v l0 pP 0 w h hpP.symm hd
 have HSM := Lib.hid fun w => qSmallB_any pP false w HpP.out (by rw [hpP, small_q]; exact hs)
 have q1 : ¬ (n1 : Int) = 64 := by omega
 have f_s_0 := h0
 have HF_s_0 := Lib.hid h0
 have f_s_1 := hB1
 have HF_s_1 := Lib.hid hB1
 clear h0 h1 h2 hB1 hpP hd hl hnl e1 hs hn
 have Bw0 := Below.refl w.heap.size w
 have HGS : Hid (∀ wq : World, Below w.heap.size w wq → w.heap.size ≤ wq.heap.size) := Lib.hid fun wq h => h.size
 go_enter Tryz.func15, Tryz.ntmps15
 go_wp2_with (first
   | (have hgo := Bw0; clear hgo
      go_at_call 39
      refine (HD1.out _ _ f_s_0).mono ?_
      rintro e w3 ⟨rfl, kk⟩
      replace f_s_0 := zfb f_s_0 kk
      replace f_s_1 := zfb f_s_1 kk
      have Bw1 := zbt HGS Bw0 kk
      clear Bw0 kk)
   | (have hgo := Bw1; clear hgo
      refine wpList_alloc_row rfl 53 rfl 12 (u64f fun _ => 0) zeroQ ?_
      intro b_t7 w7 lk r_t7 kk
      have l_t7 := zrl HGS Bw1 lk
      have a_s_0_t7 := Bs.away f_s_0 lk
      have a_s_1_t7 := Bs.away f_s_1 lk
      replace f_s_0 := zfb f_s_0 kk
      replace f_s_1 := zfb f_s_1 kk
      have Bw2 := zbt HGS Bw1 kk
      clear Bw1 kk lk)
   | (have hgo := Bw2; clear hgo
      refine wpList_store_as rfl 53 (.tmp 7) (.tmp 15) rfl 12 (qT pP) arrQ r_t7 rfl rfl (by omega) (fun j _ => qF_one _ _ _ j) (fun i hi => putN_whole hi) ?_
      intro w8 q gk
      replace r_t7 := q
      have Bw3 := zbg HGS Bw2 gk l_t7
      replace f_s_0 := gb_bs f_s_0 gk a_s_0_t7
      replace f_s_1 := gb_bs f_s_1 gk a_s_1_t7
      clear Bw2 gk q)
   | (have hgo := Bw3; clear hgo
      refine wpList_load_asg rfl 53 (.tmp 7) rfl 12 (qT pP) arrQ r_t7 rfl (by omega) (fun i hi => by rw [Nat.zero_add]) ?_
      have Bw4 := Bw3
      clear Bw3)
   | (have hgo := Bw4; clear hgo
      go_at_call 40
      refine (HSM.out _).mono ?_
      rintro e w14 ⟨rfl, kk⟩
      replace r_t7 := zrb r_t7 kk
      replace f_s_0 := zfb f_s_0 kk
      replace f_s_1 := zfb f_s_1 kk
      have Bw5 := zbt HGS Bw4 kk
      clear Bw4 kk))
 go_ret
 exact ⟨rfl, Bw5⟩
theorem verify_any (v0 : Value) (l0 : List UInt8) (v1 : Value) (l1 : List UInt8) (v2 : Value) (L0 : List (List UInt8)) (w : World) (h0 : Bs w v0 l0) (h1 : Bs w v1 l1) (h2 : Bss w v2 L0) (hnl : 2 + L0.length ≤ 2147483647) (hl : l0.length + L0.flatten.length < 2 ^ 30) :
   Calls Tryz.prog 15 #[v0, v1, v2] w fun e w' => e = .returned (.int .i64 (edVer l0 l1 L0.flatten)) ∧ Below w.heap.size w w' := by
 rcases decE_twoN l0 with hd | hd
 · rw [edVer_1 hd]
   exact verify_1 v0 l0 v1 l1 v2 L0 w h0 h1 h2 hnl hl hd
 · cases hs : pSmall (dT l0) with
   | true =>
     rw [edVer_2 hd hs]
     exact verify_2 v0 l0 v1 l1 v2 L0 w h0 h1 h2 hnl hl hd hs
   | false =>
     by_cases hn : l1.length = 64
     · exact verify_more v0 l0 v1 l1 v2 L0 w h0 h1 h2 hnl hl hd hs hn
     · rw [edVer_3 hd hs hn]
       exact verify_3 v0 l0 v1 l1 v2 L0 w h0 h1 h2 hnl hl hd hs hn

def digVal (c : UInt8) : Int := if 48 ≤ c.toNat ∧ c.toNat ≤ 57 then (c.toNat : Int) - 48 else if 97 ≤ c.toNat ∧ c.toNat ≤ 102 then (c.toNat : Int) - 87 else -1
theorem digVal_ge (c : UInt8) : -1 ≤ digVal c ∧ digVal c ≤ 15 := by
 unfold digVal; split
 · omega
 · split <;> omega
def hiV (l : List UInt8) (i : Nat) : Int := digVal (l.getD (2 * i) 0)
def loV (l : List UInt8) (i : Nat) : Int := digVal (l.getD (2 * i + 1) 0)
def pairOk (l : List UInt8) (i : Nat) : Prop := 0 ≤ hiV l i ∧ 0 ≤ loV l i
def pairV (l : List UInt8) (i : Nat) : Nat := (16 * hiV l i + loV l i).toNat
def hexOk (l : List UInt8) : Prop := l.length % 2 = 0 ∧ ∀ i, i < l.length / 2 → pairOk l i
def unhexB (l : List UInt8) : List UInt8 := (List.range (l.length / 2)).map fun i => UInt8.ofNat (pairV l i)
theorem pairV_lt (l : List UInt8) (i : Nat) : pairV l i < 256 := by
 have h1 := (digVal_ge (l.getD (2 * i) 0)).2
 have h2 := (digVal_ge (l.getD (2 * i + 1) 0)).2
 unfold pairV hiV loV; omega
def UnhexPost (w : World) (l : List UInt8) (e : Ending) (w' : World) : Prop :=
 Below w.heap.size w w' ∧ ((hexOk l ∧ ∃ v, e = .returned (.tuple #[v, .bool true]) ∧ Bs w' v (unhexB l)) ∨ (¬ hexOk l ∧ e = .returned (.tuple #[.slice none 0 0, .bool false])))
theorem str_getD (s : ByteArray) (i : Nat) (h : i < s.size) : s[i]'h = s.data.toList.getD i 0 := by
 have h2 : i < s.data.toList.length := by simpa using h
 rw [List.getD_eq_getElem?_getD, List.getElem?_eq_getElem h2]
 rfl
theorem digVal_num (c : UInt8) (h1 : 48 ≤ c.toNat) (h2 : c.toNat ≤ 57) : digVal c = (c.toNat : Int) - 48 := by unfold digVal; rw [if_pos ⟨h1, h2⟩]
theorem digVal_let (c : UInt8) (h1 : 97 ≤ c.toNat) (h2 : c.toNat ≤ 102) : digVal c = (c.toNat : Int) - 87 := by unfold digVal; rw [if_neg (by omega), if_pos ⟨h1, h2⟩]
theorem digVal_non (c : UInt8) (h1 : ¬ (48 ≤ c.toNat ∧ c.toNat ≤ 57)) (h2 : ¬ (97 ≤ c.toNat ∧ c.toNat ≤ 102)) : digVal c = -1 := by unfold digVal; rw [if_neg h1, if_neg h2]
def InnerAt (l : List UInt8) (j : Nat) (v k : Value) : Prop :=
 (k = .int .i64 0 ∧ v = .int .i64 0) ∨ (k = .int .i64 1 ∧ v = .int .i64 (hiV l j) ∧ 0 ≤ hiV l j) ∨ (k = .int .i64 2 ∧ v = .int .i64 (16 * hiV l j + loV l j) ∧ pairOk l j)
def unhexTo (l : List UInt8) (j : Nat) : List UInt8 := (List.range j).map fun i => UInt8.ofNat (pairV l i)
theorem unhexTo_succ (l : List UInt8) (j : Nat) : unhexTo l (j + 1) = unhexTo l j ++ [UInt8.ofNat (pairV l j)] := by
 unfold unhexTo; rw [List.range_succ, List.map_append]; rfl
set_option maxHeartbeats 3200000 in
theorem refUnhex_any (s : ByteArray) (w : World) (hlen : s.size ≤ 2147480000) :
   Calls Tryz.prog 18 #[.string s] w (UnhexPost w s.data.toList) := by
 have hsz : s.data.toList.length = s.size := by simp
 have HSZ := Lib.hid hsz
 clear hsz
 by_cases hodd : s.size % 2 = 0
 · obtain ⟨k, hk⟩ : ∃ k, s.size = 2 * k := ⟨s.size / 2, by omega⟩
   have htest : ((s.size : Int) % 2 != 0) = false := by simp; omega
   have hks : 2 * k ≤ s.size := by omega
   have hks2 : s.size ≤ 2 * k := by omega
   clear hk hodd
   go_enter Tryz.func18, Tryz.ntmps18
   go_wp2
   go_loopw [4, 5] (fun v i wr => ∃ j : Nat, j ≤ k ∧ i = .int .i64 (2 * (j : Int)) ∧ Owns wr w.heap.size v (unhexTo s.data.toList j) ∧ Below w.heap.size w wr ∧ Hid (∀ i, i < j → pairOk s.data.toList i)) (fun _ i _ => s.size - (intOf i).toNat)
   case atStart => exact ⟨0, Nat.zero_le _, rfl, Owns.nil _ _, Below.refl _ _, Lib.hid (fun i hi => absurd hi (by omega))⟩
   case round =>
     obtain ⟨j, hj, rfl, hown, hbel, HP⟩ := hrel
     by_cases hlt : j < k
     · have hjl : j < s.data.toList.length / 2 := by have := HSZ.out; omega
       have p1 : 2 * j < s.size := by omega
       have p2 : 2 * j + 1 < s.size := by omega
       have Hx : Hid (hiV s.data.toList j = digVal (s[2 * j]'p1)) := Lib.hid (by rw [str_getD s _ p1]; rfl)
       have Hy : Hid (loV s.data.toList j = digVal (s[2 * j + 1]'p2)) := Lib.hid (by rw [str_getD s _ p2]; rfl)
       have hlt' : 2 * (j : Int) < (s.size : Int) := by omega
       obtain ⟨wo, rfl⟩ : ∃ wo : World, wo = wr := ⟨_, rfl⟩
       go_wp2
       go_loop [6, 7] (fun v k => InnerAt s.data.toList j v k) (fun _ k => 2 - (intOf k).toNat)
       case atStart => exact .inl ⟨rfl, rfl⟩
       case round =>
         rcases hrel with ⟨rfl, rfl⟩ | ⟨rfl, rfl, hx0⟩ | ⟨rfl, rfl, hok⟩
         · have cn := digVal_num (s[2 * j]'p1)
           have cl := digVal_let (s[2 * j]'p1)
           have cx := digVal_non (s[2 * j]'p1)
           have cb := UInt8.toNat_lt (s[2 * j]'p1)
           rw [← Hx.out] at cn cl cx
           have CC := Lib.hid (And.intro cn (And.intro cl cx))
           clear cn cl cx Hx Hy
           have hi1 : 0 ≤ 2 * (j : Int) ∧ 2 * (j : Int) < (s.size : Int) := by omega
           generalize hc : s[2 * j]'p1 = c at *
           by_cases hn : 48 ≤ c.toNat ∧ c.toNat ≤ 57
           · have n1 : (48 : Int) ≤ (c.toNat : Int) := by omega
             have n2 : (c.toNat : Int) ≤ 57 := by omega
             go_wp2
             go_round
             case rel => exact .inr (.inl ⟨by go_num, by rw [CC.out.1 hn.1 hn.2], by rw [CC.out.1 hn.1 hn.2]; omega⟩)
             case measure => simp [intOf]
           · by_cases hl : 97 ≤ c.toNat ∧ c.toNat ≤ 102
             · have n1 : (97 : Int) ≤ (c.toNat : Int) := by omega
               have n2 : (c.toNat : Int) ≤ 102 := by omega
               go_wp2
               go_round
               case rel => exact .inr (.inl ⟨by go_num, by rw [CC.out.2.1 hl.1 hl.2]; go_num, by rw [CC.out.2.1 hl.1 hl.2]; omega⟩)
               case measure => simp [intOf]
             · have hbad : Hid (¬ hexOk s.data.toList) := Lib.hid (fun h => by have := (h.2 j hjl).1; rw [CC.out.2.2 hn hl] at this; omega)
               by_cases m1 : c.toNat < 48
               · have n1 : ¬ (48 : Int) ≤ (c.toNat : Int) := by omega
                 have n2 : ¬ (97 : Int) ≤ (c.toNat : Int) := by omega
                 go_wp2
                 go_ret2
                 exact ⟨hbel, .inr ⟨hbad.out, rfl⟩⟩
               · by_cases m2 : c.toNat < 97
                 · have n0 : (48 : Int) ≤ (c.toNat : Int) := by omega
                   have n1 : ¬ (c.toNat : Int) ≤ 57 := by omega
                   have n2 : ¬ (97 : Int) ≤ (c.toNat : Int) := by omega
                   go_wp2
                   go_ret2
                   exact ⟨hbel, .inr ⟨hbad.out, rfl⟩⟩
                 · have n0 : (48 : Int) ≤ (c.toNat : Int) := by omega
                   have n1 : ¬ (c.toNat : Int) ≤ 57 := by omega
                   have n2 : (97 : Int) ≤ (c.toNat : Int) := by omega
                   have n3 : ¬ (c.toNat : Int) ≤ 102 := by omega
                   go_wp2
                   go_ret2
                   exact ⟨hbel, .inr ⟨hbad.out, rfl⟩⟩
         · have cn := digVal_num (s[2 * j + 1]'p2)
           have cl := digVal_let (s[2 * j + 1]'p2)
           have cx := digVal_non (s[2 * j + 1]'p2)
           have cb := UInt8.toNat_lt (s[2 * j + 1]'p2)
           rw [← Hy.out] at cn cl cx
           have CC := Lib.hid (And.intro cn (And.intro cl cx))
           clear cn cl cx Hx Hy
           have hi1 : 0 ≤ 2 * (j : Int) + 1 ∧ 2 * (j : Int) + 1 < (s.size : Int) := by omega
           have hx1 := (digVal_ge (s.data.toList.getD (2 * j) 0)).2
           have HH : Hid (hiV s.data.toList j = digVal (s.data.toList.getD (2 * j) 0)) := Lib.hid rfl
           rw [← HH.out] at hx1
           generalize hxx : hiV s.data.toList j = x at *
           have HXX := Lib.hid hxx
           generalize hc : s[2 * j + 1]'p2 = c at *
           clear hxx HH
           by_cases hn : 48 ≤ c.toNat ∧ c.toNat ≤ 57
           · have n1 : (48 : Int) ≤ (c.toNat : Int) := by omega
             have n2 : (c.toNat : Int) ≤ 57 := by omega
             go_wp2
             go_round
             case rel => exact .inr (.inr ⟨by go_num, by rw [HXX.out, CC.out.1 hn.1 hn.2], by rw [HXX.out]; exact hx0, by rw [CC.out.1 hn.1 hn.2]; omega⟩)
             case measure => simp [intOf]
           · by_cases hl : 97 ≤ c.toNat ∧ c.toNat ≤ 102
             · have n1 : (97 : Int) ≤ (c.toNat : Int) := by omega
               have n2 : (c.toNat : Int) ≤ 102 := by omega
               go_wp2
               go_round
               case rel => exact .inr (.inr ⟨by go_num, by rw [HXX.out, CC.out.2.1 hl.1 hl.2]; go_num, by rw [HXX.out]; exact hx0, by rw [CC.out.2.1 hl.1 hl.2]; omega⟩)
               case measure => simp [intOf]
             · have hbad : Hid (¬ hexOk s.data.toList) := Lib.hid (fun h => by have := (h.2 j hjl).2; rw [CC.out.2.2 hn hl] at this; omega)
               by_cases m1 : c.toNat < 48
               · have n1 : ¬ (48 : Int) ≤ (c.toNat : Int) := by omega
                 have n2 : ¬ (97 : Int) ≤ (c.toNat : Int) := by omega
                 go_wp2
                 go_ret2
                 exact ⟨hbel, .inr ⟨hbad.out, rfl⟩⟩
               · by_cases m2 : c.toNat < 97
                 · have n0 : (48 : Int) ≤ (c.toNat : Int) := by omega
                   have n1 : ¬ (c.toNat : Int) ≤ 57 := by omega
                   have n2 : ¬ (97 : Int) ≤ (c.toNat : Int) := by omega
                   go_wp2
                   go_ret2
                   exact ⟨hbel, .inr ⟨hbad.out, rfl⟩⟩
                 · have n0 : (48 : Int) ≤ (c.toNat : Int) := by omega
                   have n1 : ¬ (c.toNat : Int) ≤ 57 := by omega
                   have n2 : (97 : Int) ≤ (c.toNat : Int) := by omega
                   have n3 : ¬ (c.toNat : Int) ≤ 102 := by omega
                   go_wp2
                   go_ret2
                   exact ⟨hbel, .inr ⟨hbad.out, rfl⟩⟩
         · have hv : 0 ≤ 16 * hiV s.data.toList j + loV s.data.toList j := by have := hok.1; have := hok.2; omega
           have hv2 := pairV_lt s.data.toList j
           have HV : Hid (16 * hiV s.data.toList j + loV s.data.toList j = ((pairV s.data.toList j : Nat) : Int)) := Lib.hid (by unfold pairV; omega)
           have hP' : Hid (∀ i, i < j + 1 → pairOk s.data.toList i) := Lib.hid fun i hi => (by rcases (show i < j ∨ i = j by omega) with h | rfl; exact HP.out i h; exact hok)
           rw [HV.out]
           have HS := Lib.hid (unhexTo_succ s.data.toList j)
           have HB : Hid (((UInt8.ofNat (pairV s.data.toList j)).toNat : Int) = ((pairV s.data.toList j : Nat) : Int)) := Lib.hid (by rw [UInt8.toNat_ofNat_of_lt' (show _ < 256 from hv2)])
           generalize pairV s.data.toList j = p at *
           clear hv HV hok Hx Hy HP
           have hone : Bs (wo.alloc (.cells #[.int .u8 ((p : Nat) : Int)] 5)) (.slice (some ⟨wo.heap.size, 0, none⟩) 1 1) [UInt8.ofNat p] := by rw [← HB.out]; exact Bs.one wo _
           have hO := Owns.alloc hown (.cells #[.int .u8 ((p : Nat) : Int)] 5)
           have HO := Lib.hid (And.intro hO hone)
           have hlenj : (unhexTo s.data.toList j).length = j := by simp [unhexTo]
           have HL := Lib.hid hlenj
           clear hO hone hlenj HB
           go_wp2_with (refine wpList_app rfl _ _ rfl w.heap.size _ _ _ _ HO.out.1 HO.out.2 rfl rfl (by rw [HL.out]; simp; omega) (by have := hbel.size; simp; omega) ?_; intro v2 w2 hown2 hgrow2)
           rw [← HS.out] at hown2
           have hbel3 : Below w.heap.size w w2 := (hbel.alloc hbel.size _).grown hgrow2 (by have := hbel.size; simp; omega) (Owns.block HO.out.1)
           clear hgrow2 HO hown hbel
           go_wp2
           go_roundw
           case rel => exact ⟨j + 1, by omega, by go_num, hown2, hbel3, hP'⟩
           case measure => simp [intOf]; omega
     · obtain rfl : j = k := by omega
       have hout : ¬ 2 * (j : Int) < (s.size : Int) := by omega
       have hrange : Hid (unhexB s.data.toList = unhexTo s.data.toList j) := Lib.hid (by unfold unhexB unhexTo; rw [HSZ.out, show s.size / 2 = j by omega])
       go_wp2
       go_ret2
       exact ⟨hbel, .inl ⟨⟨by rw [HSZ.out]; omega, fun i hi => HP.out i (by rw [HSZ.out] at hi; omega)⟩, _, rfl, by rw [hrange.out]; exact hown.bs⟩⟩
 · have htest : ((s.size : Int) % 2 != 0) = true := by simp; omega
   go_enter Tryz.func18, Tryz.ntmps18
   go_wp2
   go_ret2
   refine ⟨Below.refl _ _, .inr ⟨fun h => hodd ?_, rfl⟩⟩
   have := h.1
   rw [HSZ.out] at this
   exact this
end Go.Proofs.YtonhpmaiagbheaaGreat
namespace Go.Proofs.YtonhpmaiagbheaaGreat
open Go.RowKit Go.Deep
section
variable {n : Nat} (k : Kind n)
def Kind.evL (b : Nat → BitVec n) : Nat → List (BitVec n)
 | 0 => []
 | i + 1 => (if i < 16 then b i else k.low1 ((Kind.evL b i).getD 1 0) + (Kind.evL b i).getD 6 0 + k.low0 ((Kind.evL b i).getD 14 0) + (Kind.evL b i).getD 15 0) :: Kind.evL b i
theorem Kind.evL_get (b : Nat → BitVec n) : ∀ i t, t < i → (k.evL b i).getD (i - 1 - t) 0 = k.sched b t
 | 0, t, h => by omega
 | i + 1, t, h => by
   by_cases e : t = i
   · subst e
     rw [show t + 1 - 1 - t = 0 by omega, Kind.evL, List.getD_cons_zero]
     by_cases h16 : t < 16
     · rw [if_pos h16, Kind.sched_low _ _ _ h16]
     · rw [if_neg h16, Kind.sched_high _ _ _ (by omega), ← Kind.evL_get b t (t - 2) (by omega), ← Kind.evL_get b t (t - 7) (by omega), ← Kind.evL_get b t (t - 15) (by omega), ← Kind.evL_get b t (t - 16) (by omega)]
       rw [show t - 1 - (t - 2) = 1 by omega, show t - 1 - (t - 7) = 6 by omega, show t - 1 - (t - 15) = 14 by omega, show t - 1 - (t - 16) = 15 by omega]
   · rw [show i + 1 - 1 - t = (i - 1 - t) + 1 by omega, Kind.evL, List.getD_cons_succ]
     exact Kind.evL_get b i t (by omega)
theorem Kind.rnd_congr {W W' : Nat → BitVec n} (s : S8 n) : ∀ t, (∀ j, j < t → W j = W' j) → k.rnd W s t = k.rnd W' s t
 | 0, _ => rfl
 | t + 1, h => by rw [Kind.rnd, Kind.rnd, Kind.rnd_congr s t (fun j hj => h j (by omega)), h t (by omega)]
theorem Kind.press_ev (s : S8 n) (blk : List UInt8) : k.press s blk = S8.add s (k.rnd (fun t => (k.evL (k.word blk) k.rounds).getD (k.rounds - 1 - t) 0) s k.rounds) := by
 unfold Kind.press
 congr 1
 exact k.rnd_congr s _ fun j hj => (k.evL_get _ _ _ hj).symm
theorem Kind.sum_one (m : List UInt8) (h : (k.pad m).length / k.block = 1) : k.sum m = k.out (S8.add k.first (k.rnd (fun t => (k.evL (k.word (((k.pad m).drop (k.block * 0)).take k.block)) k.rounds).getD (k.rounds - 1 - t) 0) k.first k.rounds)) 8 := by
 unfold Kind.sum
 rw [h]
 show k.out (k.press k.first _) 8 = _
 rw [k.press_ev]
end
end Go.Proofs.YtonhpmaiagbheaaGreat
namespace Go.Proofs.YtonhpmaiagbheaaGreat
open Go.RowKit Go.Deep
def kS : List UInt8 := [157, 97, 177, 157, 239, 253, 90, 96, 186, 132, 74, 244, 146, 236, 44, 196, 68, 73, 197, 105, 123, 50, 105, 25, 112, 59, 172, 3, 28, 174, 127, 96]
def hS : List UInt8 := [53, 124, 131, 134, 79, 40, 51, 203, 66, 122, 46, 241, 192, 10, 1, 60, 253, 255, 39, 104, 217, 128, 192, 163, 165, 32, 240, 6, 144, 77, 233, 15]
theorem sum_kS : (k512.sum kS).take 32 = hS := by
 rw [Kind.sum_one k512 kS (by kernel_rfl)]
 kernel_rfl
theorem clamp_hS : clampN hS < 2 * top := by decide +kernel
theorem edA_of (s l : List UInt8) (h : (k512.sum s).take 32 = l) (hc : clampN l < 2 * top) : edA s = clampN l % ordL := by
 unfold edA
 rw [h, wide_32 _ (litB_length _ _), numL_lit _ hc]
theorem edA_kS1 : edA kS = clampN hS % ordL := edA_of kS hS sum_kS clamp_hS
theorem edA_kS2 : clampN hS % ordL = 7196903412274038802701538263280187907152860435200743670699908441353638128764 := by decide +kernel
theorem edA_kS : edA kS = 7196903412274038802701538263280187907152860435200743670699908441353638128764 := edA_kS1.trans edA_kS2
theorem invP_pw9 (a : Nat) : invP a = pw p25 255 a (p25 - 2) := (pw_eq p25 255 a (p25 - 2) (by decide +kernel)).symm
theorem dP_lit9 : dP = 37095705934669439343138083508754565189542113879843219016388785533085940283555 := by
 unfold dP
 rw [invP_pw9]
 decide +kernel
def dLit : Nat := 37095705934669439343138083508754565189542113879843219016388785533085940283555
def encW (a : Nat × Nat × Nat) : Nat := mulP a.2.1 (pw p25 255 a.2.2 (p25 - 2)) + mulP a.1 (pw p25 255 a.2.2 (p25 - 2)) % 2 * top
theorem encA_w (a : Nat × Nat × Nat) : encA a = encW a := by
 unfold encA encW
 rw [invP_pw9]
theorem pub_of (s : List UInt8) (A : Nat) (h : edA s = A) : edPub s = litB (encW (pmul dLit bT A)) 32 := by
 unfold edPub
 rw [h, encA_w, show dP = dLit from dP_lit9]
theorem pub_w : edPub kS = litB (encW (pmul dLit bT 7196903412274038802701538263280187907152860435200743670699908441353638128764)) 32 := pub_of kS _ edA_kS
theorem pub_w4 : (litB (encW (pmul dLit bT 7196903412274038802701538263280187907152860435200743670699908441353638128764)) 32).take 4 = [215, 90, 152, 1] := by decide +kernel
theorem pub_four : (edPub kS).take 4 = [215, 90, 152, 1] := by
 have h := pub_w4
 rwa [← pub_w] at h
theorem unhex_lit9 (s : ByteArray) (l : List UInt8) (w : World) (hs : s.size ≤ 2147480000) (hok : hexOk s.data.toList) (hl : unhexB s.data.toList = l) :
   Calls Tryz.prog 18 #[.string s] w fun e w' => ∃ v, e = .returned (.tuple #[v, .bool true]) ∧ Bs w' v l ∧ Below w.heap.size w w' :=
 (refUnhex_any s w hs).mono fun e w' h => by
   obtain ⟨hb, h | h⟩ := h
   · obtain ⟨_, v, h1, h2⟩ := h
     rw [hl] at h2
     exact ⟨v, h1, h2, hb⟩
   · exact absurd hok h.1
theorem hexOk_of9 (l : List UInt8) (h : (l.length % 2 == 0 && (List.range (l.length / 2)).all fun i => decide (0 ≤ hiV l i) && decide (0 ≤ loV l i)) = true) : hexOk l := by
 simp only [Bool.and_eq_true, beq_iff_eq, List.all_eq_true, List.mem_range, decide_eq_true_eq] at h
 exact ⟨h.1, fun i hi => h.2 i hi⟩
theorem unhex_kS (w : World) : Calls Tryz.prog 18 #[.string ⟨#[57, 100, 54, 49, 98, 49, 57, 100, 101, 102, 102, 100, 53, 97, 54, 48, 98, 97, 56, 52, 52, 97, 102, 52, 57, 50, 101, 99, 50, 99, 99, 52, 52, 52, 52, 57, 99, 53, 54, 57, 55, 98, 51, 50, 54, 57, 49, 57, 55, 48, 51, 98, 97, 99, 48, 51, 49, 99, 97, 101, 55, 102, 54, 48]⟩] w fun e w' => ∃ v, e = .returned (.tuple #[v, .bool true]) ∧ Bs w' v kS ∧ Below w.heap.size w w' :=
 unhex_lit9 _ _ w (by decide +kernel) (hexOk_of9 _ (by decide +kernel)) (by decide +kernel)
set_option maxHeartbeats 4000000 in
set_option maxRecDepth 10000 in
theorem awake9_any (w : World) : Calls Tryz.prog 6 #[] w fun e w' => e = .returned (.bool true) ∧ Below w.heap.size w w' := by
 have HPL := Lib.hid (edPub_length kS)
 have HP4 := Lib.hid pub_four
 have HPY := Lib.hid fun v w h => public_yes v kS w h (by decide)
 have HSN := Lib.hid fun w => sign_no (.slice none 0 0) [] (.slice none 0 0) w (Bs.nil w) (by decide)
 obtain ⟨pb, hpb⟩ : ∃ l, l = edPub kS := ⟨_, rfl⟩
 rw [← hpb] at HPL HP4 HPY
 clear hpb
 have Bw0 := Below.refl w.heap.size w
 have HGS : Hid (∀ wq : World, Below w.heap.size w wq → w.heap.size ≤ wq.heap.size) := Lib.hid fun wq h => h.size
 go_enter Tryz.func6, Tryz.ntmps6
 go_wp2_with (first
   | (have hgo := Bw0; clear hgo
      go_at_call 18
      refine (unhex_kS _).mono ?_
      rintro e w2 ⟨v_s8, rfl, f_s8, kk⟩
      have Bw1 := zbt HGS Bw0 kk
      clear Bw0 kk)
   | (have hgo := Bw1; clear hgo
      go_at_call 7
      refine (HPY.out _ _ f_s8).mono ?_
      rintro e w9 ⟨v_s13, rfl, o_s13, kk⟩
      replace f_s8 := zfb f_s8 kk
      have Bw2 := zbt HGS Bw1 kk
      clear Bw1 kk
      have f_s13 := o_s13.bs
      clear o_s13)
   | (have hgo := Bw2; clear hgo
      go_at_call 8
      refine (HSN.out _).mono ?_
      rintro e w15 ⟨rfl, kk⟩
      replace f_s8 := zfb f_s8 kk
      replace f_s13 := zfb f_s13 kk
      have Bw3 := zbt HGS Bw2 kk
      clear Bw2 kk
      obtain ⟨ad, n, c, rfl, e3, y3, z3, h3b⟩ := f_s13.shape
      have hn : n = 32 := by rw [← e3]; exact HPL.out
      subst hn
      have h5 := (Bs.take h3b (k := 4) (by omega)).conv
      rw [HP4.out] at h5
      clear f_s8 f_s13 h3b e3))
 go_ret
 exact ⟨rfl, Bw3⟩

def Ns (w : World) (v : Value) (xs : List Nat) : Prop :=
 ∃ (b off cap : Nat), v = .slice (some ⟨b, off, none⟩) xs.length cap ∧ b < w.heap.size ∧ ∀ i (h : i < xs.length), w.cell? ⟨b, off + i, none⟩ = some (.int .i64 (xs[i] : Int))
theorem Ns.two (w : World) (x y : Nat) : Ns (w.alloc (.cells #[.int .i64 (x : Int), .int .i64 (y : Int)] 3)) (.slice (some ⟨w.heap.size, 0, none⟩) 2 2) [x, y] := by
 refine ⟨_, _, _, rfl, by simp, fun i hi => ?_⟩
 match i, hi with
 | 0, _ => exact World.cell?_alloc_mark w _ 3 (0, 0) 0
 | 1, _ => exact World.cell?_alloc_mark w _ 3 (0, 0) 1
def sumTo (xs : List Nat) (j : Nat) : Nat := (xs.take j).sum
theorem sumTo_succ (xs : List Nat) (j : Nat) (h : j < xs.length) : sumTo xs (j + 1) = sumTo xs j + xs[j] := by
 unfold sumTo
 rw [List.take_succ_eq_append_getElem h, List.sum_append]
 simp only [List.sum_cons, List.sum_nil, Nat.add_zero]
set_option maxHeartbeats 800000 in
theorem sum_any (n : Nat) (v : Value) (xs : List Nat) (w : World) (hv : Ns w v xs) (hn : n ≤ 1099511627776) (hxs : ∀ x ∈ xs, x ≤ 9223372036854775807) (hlen : xs.length ≤ 1000000) :
   Calls Tryz.prog 17 #[.int .i64 n, v] w fun e w' => ∃ s : Nat, e = .returned (.int .i64 s) ∧ s ≤ 1099511627776 ∧ (s < 1099511627776 → s = n + xs.sum) ∧ w' = w := by
 obtain ⟨b, off, cap, rfl, _, hc⟩ := hv
 have HC := Lib.hid hc
 have HX := Lib.hid hxs
 have hlen2 : (xs.length : Int) ≤ 1000000 := by omega
 have hall : sumTo xs xs.length = xs.sum := by unfold sumTo; rw [List.take_length]
 have HALL := Lib.hid hall
 clear hc hxs hall
 go_enter Tryz.func17, Tryz.ntmps17
 go_wp2
 go_loop [0, 5] (fun s i => ∃ (j m : Nat), j ≤ xs.length ∧ i = .int .i64 j ∧ s = .int .i64 m ∧ m ≤ 1099511627776 ∧ Hid (m = n + sumTo xs j)) (fun _ i => xs.length - (intOf i).toNat)
 case atStart => exact ⟨0, n, Nat.zero_le _, rfl, rfl, hn, Lib.hid (by simp [sumTo])⟩
 case round =>
   obtain ⟨j, m, hj, rfl, rfl, hm, HM⟩ := hrel
   by_cases hlt : j < xs.length
   · have hcj := HC.out j hlt
     have hxj := HX.out xs[j] (List.getElem_mem _)
     have HS := Lib.hid (sumTo_succ xs j hlt)
     have hm0 : ¬ (1099511627776 : Int) < (m : Int) := by omega
     have hi1 : 0 ≤ (j : Int) ∧ (j : Int) < (xs.length : Int) := by omega
     generalize xs[j] = x at *
     by_cases hbig : 1099511627776 - (m : Int) < (x : Int)
     · go_wp2
       go_ret
       exact ⟨1099511627776, rfl, Nat.le_refl _, fun h => absurd h (by omega), rfl⟩
     · go_wp2
       go_round
       case rel => exact ⟨j + 1, m + x, by omega, by go_num, by go_num, by omega, Lib.hid (by rw [HS.out, HM.out]; omega)⟩
       case measure => simp [intOf]; omega
   · obtain rfl : j = xs.length := by omega
     go_wp2
     go_ret
     exact ⟨m, rfl, hm, fun _ => by rw [HM.out, HALL.out], rfl⟩
set_option maxHeartbeats 800000 in
theorem all_any (v : Value) (L : List (List UInt8)) (top : Nat) (w : World) (hv : Bss w v L) (ht : top < 1099511627776) :
   Calls Tryz.prog 5 #[v, .int .i64 top] w fun e w' => ∃ s : Nat, e = .returned (.int .i64 s) ∧ s ≤ 1099511627776 ∧ (s ≤ top → L.flatten.length + L.length ≤ top) ∧ Below w.heap.size w w' := by
 have HV := Lib.hid hv
 obtain ⟨a, cap, rfl, h1, h2, h3, h4⟩ := hv
 clear h3 h4
 unfold maxLen at h2
 have HALL := Lib.hid (catTo_all L L.length (Nat.le_refl _))
 generalize hn : L.length = n at *
 have HN := Lib.hid hn
 clear hn
 go_enter Tryz.func5, Tryz.ntmps5
 go_wp2
 go_loopw [5, 6] (fun s i wr => ∃ (j m : Nat), j ≤ n ∧ i = .int .i64 j ∧ s = .int .i64 m ∧ m ≤ 1099511627776 ∧ Hid (m ≤ top → m = (catTo L j).length + j) ∧ Below w.heap.size w wr) (fun _ i _ => n - (intOf i).toNat)
 case atStart => exact ⟨0, 0, Nat.zero_le _, rfl, rfl, by omega, Lib.hid (by simp [catTo]), Below.refl _ _⟩
 case round =>
   obtain ⟨j, m, hj, rfl, rfl, hm, HM, hbel⟩ := hrel
   by_cases hlt : j < n
   · by_cases hmt : m ≤ top
     · have hjl : j < L.length := by rw [HN.out]; exact hlt
       have HS := Lib.hid (catTo_succ L j hjl)
       obtain ⟨b, off, cap', he, _, _, hbl, hc⟩ := HV.out.open_cons (by rw [HN.out]; omega)
       rw [HN.out] at he
       cases he
       obtain ⟨u, hcj, hu⟩ := hc j hjl
       clear hc
       have hcr : wr.cell? ⟨b, off + j, none⟩ = some u := (hbel.cell (by exact hbl)).trans hcj
       obtain ⟨au, x, cu, rfl, hx, hx1, hx2, _⟩ := hu.shape
       have HXL := Lib.hid hx
       clear hx hu hcj
       have hi1 : 0 ≤ (j : Int) ∧ (j : Int) < (n : Int) := by omega
       have hN := Ns.two wr x 1
       have hx3 : ∀ y ∈ [x, 1], y ≤ 9223372036854775807 := by intro y hy; simp at hy; omega
       have HX3 := Lib.hid hx3
       clear hx3
       go_wp2_with fail
       refine (sum_any m _ [x, 1] _ hN hm HX3.out (by simp)).mono ?_
       rintro e w2 ⟨s, rfl, hs1, hs2, rfl⟩
       have HS2 := Lib.hid hs2
       clear hs2 hN
       go_wp2
       go_roundw
       case rel =>
         refine ⟨j + 1, s, by omega, by go_num, rfl, hs1, Lib.hid fun h => ?_, hbel.alloc hbel.size _⟩
         rw [HS.out, List.length_append, HXL.out, HS2.out (by omega), HM.out hmt]
         simp only [List.sum_cons, List.sum_nil]
         omega
       case measure => simp [intOf]; omega
     · go_wp2
       go_ret
       exact ⟨m, rfl, hm, fun h => absurd h hmt, hbel⟩
   · obtain rfl : j = n := by omega
     go_wp2
     go_ret
     refine ⟨m, rfl, hm, fun h => ?_, hbel⟩
     have := HM.out h
     rw [HALL.out] at this
     omega
set_option maxHeartbeats 800000 in
theorem alikeCat_any (v : Value) (L : List (List UInt8)) (w : World) (hv : Bss w v L) (hlen : L.flatten.length ≤ 2147483647) :
   Calls Tryz.prog 14 #[v] w fun e w' => ∃ v', e = .returned v' ∧ Owns w' w.heap.size v' L.flatten ∧ Below w.heap.size w w' := by
 have HV := Lib.hid hv
 obtain ⟨a, cap, rfl, h1, h2, h3, h4⟩ := hv
 clear h3 h4
 unfold maxLen at h2
 go_enter Tryz.func14, Tryz.ntmps14
 go_wp2
 generalize hn : L.flatten.length = n at *
 have HN := Lib.hid hn
 clear hn
 go_loopw [3, 4] (fun v i wr => ∃ j : Nat, j ≤ L.length ∧ i = .int .i64 j ∧ Owns wr w.heap.size v (catTo L j) ∧ Below w.heap.size w wr) (fun _ i _ => L.length - (intOf i).toNat)
 case atStart => exact ⟨0, Nat.zero_le _, rfl, Owns.nil _ _, Below.refl _ _⟩
 case round =>
   obtain ⟨j, hj, rfl, hown, hbel⟩ := hrel
   by_cases hlt : j < L.length
   · have hsum : (catTo L j).length + L[j].length ≤ n := by
       have := catTo_le L (j + 1)
       rw [catTo_succ L j hlt, List.length_append] at this
       have := HN.out
       omega
     obtain ⟨b, off, cap', he, _, _, hbl, hc⟩ := HV.out.open_cons (by omega)
     cases he
     obtain ⟨u, hcj, hu⟩ := hc j hlt
     clear hc
     have hcr : wr.cell? ⟨b, off + j, none⟩ = some u := (hbel.cell (by exact hbl)).trans hcj
     have hur : Bs wr u L[j] := hu.below hbel (Nat.le_refl _)
     have HU := Lib.hid hur
     obtain ⟨au, cu, rfl, _, _, _, _⟩ := hu
     clear hur
     go_wp2_with (refine wpList_app rfl _ _ rfl w.heap.size _ _ (catTo L j) L[j] hown HU.out rfl rfl (by omega) (by have := hbel.size; omega) ?_; intro v2 w2 hown2 hgrow2)
     have hown3 : Owns w2 w.heap.size v2 (catTo L (j + 1)) := by rw [catTo_succ L j hlt]; exact hown2
     have hbel3 : Below w.heap.size w w2 := hbel.grown hgrow2 hbel.size (Owns.block hown)
     clear hown2 hgrow2 hown hbel hcr HU hsum
     go_wp2
     go_roundw
     case rel => exact ⟨j + 1, by omega, by go_num, hown3, hbel3⟩
     case measure => simp [intOf]; omega
   · obtain rfl : j = L.length := by omega
     go_wp2
     go_ret
     exact ⟨_, rfl, by rw [← catTo_all L L.length (Nat.le_refl _)]; exact hown, hbel⟩
theorem verify_to (v0 : Value) (l0 : List UInt8) (v1 : Value) (l1 : List UInt8) (v2 : Value) (L0 : List (List UInt8)) (t : List UInt8) (e : Int) (w : World) (h0 : Bs w v0 l0) (h1 : Bs w v1 l1) (h2 : Bss w v2 L0) (ht : L0.flatten = t) (hnl : 2 + L0.length ≤ 2147483647) (hl : l0.length + t.length < 2 ^ 30) (he : edVer l0 l1 t = e) :
   Calls Tryz.prog 15 #[v0, v1, v2] w fun e' w' => e' = .returned (.int .i64 e) ∧ Below w.heap.size w w' := by
 subst ht he
 exact verify_any v0 l0 v1 l1 v2 L0 w h0 h1 h2 hnl hl
theorem alikeCat_to (v : Value) (L : List (List UInt8)) (t : List UInt8) (w : World) (hv : Bss w v L) (ht : L.flatten = t) (hlen : t.length ≤ 2147483647) : Calls Tryz.prog 14 #[v] w fun e w' => ∃ v', e = .returned v' ∧ Owns w' w.heap.size v' t ∧ Below w.heap.size w w' := by
 subst ht
 exact alikeCat_any v L w hv hlen
theorem numB_ext (l l' : List UInt8) : ∀ k, (∀ i, i < k → l.getD i 0 = l'.getD i 0) → numB l k = numB l' k
 | 0, _ => rfl
 | k + 1, h => by
   rw [numB, numB, numB_ext l l' k (fun i hi => h i (by omega))]
   unfold byteAt
   rw [h k (by omega)]
theorem numB_cut (M : List UInt8) (p t b B : Nat) (h : t + b ≤ B) : numB ((M.drop (p + t)).take b) b = numB (((M.drop p).take B).drop t) b := by
 refine numB_ext _ _ _ fun i hi => ?_
 rw [List.getD_eq_getElem?_getD, List.getD_eq_getElem?_getD, List.getElem?_take_of_lt hi, List.getElem?_drop, List.getElem?_drop, List.getElem?_take_of_lt (by omega), List.getElem?_drop]
 congr 2
 omega
theorem room128 (n z : Nat) (hz : z ≤ endRoom n 128 - 17) : (n + 1 + z) % 128 = 112 ↔ z = endRoom n 128 - 17 := by
 unfold endRoom at *; split at hz <;> split <;> omega
theorem pad_blocks {n : Nat} (k : Kind n) (l : List UInt8) (hk : 64 ≤ k.block) (h9 : k.block = 64 ∨ k.block = 128) : (k.pad l).length = k.block * ((k.pad l).length / k.block) := by
 have h1 : (k.pad l).length = l.length + endRoom l.length k.block := by
   unfold Kind.pad
   rw [List.length_append, endOf_length _ _ hk]
 have h2 : (l.length + endRoom l.length k.block) % k.block = 0 := by
   unfold endRoom
   rcases h9 with h | h <;> rw [h] <;> split <;> omega
 rw [h1]
 have := Nat.div_add_mod (l.length + endRoom l.length k.block) k.block
 omega
theorem ref_add4_64 (a b c d : BitVec 64) : IntKind.u64.wrap (IntKind.u64.wrap (IntKind.u64.wrap ((d.toNat : Int) + c.toNat) + b.toNat) + a.toNat) = ((a + b + c + d).toNat : Int) := by
 rw [wadd64, wadd64, wadd64]
 have : d + c + b + a = a + b + c + d := by
   rw [BitVec.add_comm _ a, BitVec.add_comm _ b, BitVec.add_comm d c, ← BitVec.add_assoc, ← BitVec.add_assoc]
 rw [this]
theorem ref_t64 (W h t c : BitVec 64) (j : Nat) : IntKind.u64.wrap (IntKind.u64.wrap (IntKind.u64.wrap (IntKind.u64.wrap ((h.toNat : Int) + t.toNat) + c.toNat) + (K64 j).toNat) + W.toNat) = ((W + (h + t + c + K64 j)).toNat : Int) := by
 simp only [wadd64]
 rw [BitVec.add_comm (h + t + c + K64 j) W]
theorem ref_u64 (g m : BitVec 64) : IntKind.u64.wrap ((g.toNat : Int) + m.toNat) = ((g + m).toNat : Int) := add64 g m
theorem tri_val64 (x : BitVec 64) (i j k : Nat) : bits .xor .u64 (bits .xor .u64 (rotr x i).toNat (rotr x j).toNat) (rotr x k).toNat = ((tri x i j k).toNat : Int) := by
 rw [xor64, xor64]; rfl
theorem chz_val64 (x y z : BitVec 64) : bits .xor .u64 (bits .and .u64 x.toNat y.toNat) (bits .and .u64 (bits .xor .u64 IntKind.u64.max x.toNat) z.toNat) = ((chz x y z).toNat : Int) := by
 rw [not64, and64, and64, xor64]; rfl
theorem maj_val64 (x y z : BitVec 64) : bits .xor .u64 (bits .xor .u64 (bits .and .u64 x.toNat y.toNat) (bits .and .u64 x.toNat z.toNat)) (bits .and .u64 y.toNat z.toNat) = ((maj x y z).toNat : Int) := by
 rw [and64, and64, and64, xor64, xor64]; rfl
def sel64 (a b c d e f g h : Int) : Nat → Value
 | 0 => .int .u64 a
 | 1 => .int .u64 b
 | 2 => .int .u64 c
 | 3 => .int .u64 d
 | 4 => .int .u64 e
 | 5 => .int .u64 f
 | 6 => .int .u64 g
 | _ => .int .u64 h
theorem sel64_one (a b c d e f g h : Int) : ∀ j, j < 8 → (sel64 a b c d e f g h j).oneCell' = true := fun j _ => by
 unfold sel64; split <;> rfl
theorem sel64_state (s : S8 64) (a b c d e f g h : Int) (h0 : a = (s.a.toNat : Int)) (h1 : b = (s.b.toNat : Int)) (h2 : c = (s.c.toNat : Int)) (h3 : d = (s.d.toNat : Int)) (h4 : e = (s.e.toNat : Int)) (h5 : f = (s.f.toNat : Int)) (h6 : g = (s.g.toNat : Int)) (h7 : h = (s.h.toNat : Int)) (i : Nat) (_hi : i < 8) :
   sel64 a b c d e f g h i = w64 s.at i := by
 subst h0 h1 h2 h3 h4 h5 h6 h7
 match i with
 | 0 => rfl
 | 1 => rfl
 | 2 => rfl
 | 3 => rfl
 | 4 => rfl
 | 5 => rfl
 | 6 => rfl
 | _ + 7 => rfl
set_option maxHeartbeats 16000000 in
set_option maxRecDepth 100000 in
theorem ref512_L4 {Q : Exit → Act → World → Prop} (w3 : World) (hb wb T c3 q : Nat) (a3 : Option Addr) (M : List UInt8) (W : Nat → BitVec 64) (st : Nat → BitVec 64) {u0 u1 u2 u3 u4 u9 u10 u11 u12 u13 u14 u15 u16 u17 u18 u19 u20 u21 u22 u23 u24 u25 u26 u27 u28 u29 u30 u31 u32 u33 u34 u35 u36 u37 u38 u39 u40 u41 u42 u43 u44 u45 u46 u47 u48 u49 u50 u51 u52 u53 u54 u55 u56 u57 u58 u59 u60 u61 u62 u63 u64 u65 u66 u67 u68 u69 u70 u71 u72 u73 u74 u75 u76 u77 u78 u79 u80 u81 u82 u83 u84 u85 u86 u87 u88 u89 u90 u91 u92 u93 u94 u95 u96 u97 u98 u99 u100 u101 u102 u103 u104 u105 u106 u107 u108 u109 u110 u111 u112 u113 u114 u115 u116 u117 u118 u119 u120 u121 u122 u123 u124 u125 u126 u127 u128 u129 u130 u131 u132 u133 u134 u135 u136 u137 u138 u139 u140 u141 u142 u143 u144 u145 u146 u147 u148 u149 u150 u151 u152 u153 u154 u155 u156 u157 u158 u159 u160 u161 u162 u163 u164 u165 u166 u167 u168 u169 u170 u171 u172 u173 u174 u175 u176 u177 u178 u179 u180 u181 u182 u183 u184 u185 u186 u187 u188 u189 u190 u191 u192 u193 u194 u195 u196 u197 u198 u199 u200 u201 u202 u203 u204 u205 u206 u207 u208 u209 u210 u211 u212 u213 u214 u215 u216 u217 u218 u219 u220 u221 u222 u223 u224 u225 u226 : Value} {wq : World} (hT : T < 2 ^ 31) (hq : q + 128 ≤ T) (hB3 : Hid (Bs w3 (.slice a3 T c3) M)) (hA3 : Away (.slice a3 T c3) hb) (hwb : w3.heap.size ≤ wb) (hwn : hb ≠ wb) (HW16 : Hid (∀ t, t < 16 → W t = BitVec.ofNat 64 (numB ((M.drop (q + 8 * t)).take 8) 8)))
   (hW0 : wq.rowIs wb 104 80 (fun _ => .int .u64 0)) (hH0 : wq.rowIs hb 83 8 (w64 st)) (hg0 : w3.grownBy wq (some hb))
   (hK : ∀ (x8 x49 x50 x51 x52 x53 x54 x55 x56 x57 x58 x59 x60 x61 x62 x63 x64 x65 x66 : Value) (w' : World), (w'.rowIs wb 104 80 (fun i => .int .u64 (if i < 16 then ((W i).toNat : Int) else 0)) ∧ w'.rowIs hb 83 8 (w64 st) ∧ w3.grownBy w' (some hb)) → Q (.exit 4) ⟨(List.toArray (u0 :: u1 :: u2 :: u3 :: u4 :: (.slice a3 T c3) :: (.int .i64 (q : Int)) :: (.pointer (some ⟨wb, 0, none⟩)) :: x8 :: u9 :: u10 :: u11 :: u12 :: u13 :: u14 :: u15 :: u16 :: u17 :: u18 :: u19 :: u20 :: u21 :: u22 :: u23 :: u24 :: u25 :: u26 :: u27 :: u28 :: u29 :: u30 :: u31 :: u32 :: u33 :: u34 :: u35 :: u36 :: u37 :: u38 :: u39 :: u40 :: u41 :: u42 :: u43 :: u44 :: u45 :: u46 :: u47 :: u48 :: x49 :: x50 :: x51 :: x52 :: x53 :: x54 :: x55 :: x56 :: x57 :: x58 :: x59 :: x60 :: x61 :: x62 :: x63 :: x64 :: x65 :: x66 :: u67 :: u68 :: u69 :: u70 :: u71 :: u72 :: u73 :: u74 :: u75 :: u76 :: u77 :: u78 :: u79 :: u80 :: u81 :: u82 :: u83 :: u84 :: u85 :: u86 :: u87 :: u88 :: u89 :: u90 :: u91 :: u92 :: u93 :: u94 :: u95 :: u96 :: u97 :: u98 :: u99 :: u100 :: u101 :: u102 :: u103 :: u104 :: u105 :: u106 :: u107 :: u108 :: u109 :: u110 :: u111 :: u112 :: u113 :: u114 :: u115 :: u116 :: u117 :: u118 :: u119 :: u120 :: u121 :: u122 :: u123 :: u124 :: u125 :: u126 :: u127 :: u128 :: u129 :: u130 :: u131 :: u132 :: u133 :: u134 :: u135 :: u136 :: u137 :: u138 :: u139 :: u140 :: u141 :: u142 :: u143 :: u144 :: u145 :: u146 :: u147 :: u148 :: u149 :: u150 :: u151 :: u152 :: u153 :: u154 :: u155 :: u156 :: u157 :: u158 :: u159 :: u160 :: u161 :: u162 :: u163 :: u164 :: u165 :: u166 :: u167 :: u168 :: u169 :: u170 :: u171 :: u172 :: u173 :: u174 :: u175 :: u176 :: u177 :: u178 :: u179 :: u180 :: u181 :: u182 :: u183 :: u184 :: u185 :: u186 :: u187 :: u188 :: u189 :: u190 :: u191 :: u192 :: u193 :: u194 :: u195 :: u196 :: u197 :: u198 :: u199 :: u200 :: u201 :: u202 :: u203 :: u204 :: u205 :: u206 :: u207 :: u208 :: u209 :: u210 :: u211 :: u212 :: u213 :: u214 :: u215 :: u216 :: u217 :: u218 :: u219 :: u220 :: u221 :: u222 :: u223 :: u224 :: u225 :: u226 :: [])), []⟩ w') :
   Code.wp Tryz.prog (codeAt 4 Tryz.f29) Q ⟨(List.toArray (u0 :: u1 :: u2 :: u3 :: u4 :: (.slice a3 T c3) :: (.int .i64 (q : Int)) :: (.pointer (some ⟨wb, 0, none⟩)) :: (.int .i64 (0 : Int)) :: u9 :: u10 :: u11 :: u12 :: u13 :: u14 :: u15 :: u16 :: u17 :: u18 :: u19 :: u20 :: u21 :: u22 :: u23 :: u24 :: u25 :: u26 :: u27 :: u28 :: u29 :: u30 :: u31 :: u32 :: u33 :: u34 :: u35 :: u36 :: u37 :: u38 :: u39 :: u40 :: u41 :: u42 :: u43 :: u44 :: u45 :: u46 :: u47 :: u48 :: u49 :: u50 :: u51 :: u52 :: u53 :: u54 :: u55 :: u56 :: u57 :: u58 :: u59 :: u60 :: u61 :: u62 :: u63 :: u64 :: u65 :: u66 :: u67 :: u68 :: u69 :: u70 :: u71 :: u72 :: u73 :: u74 :: u75 :: u76 :: u77 :: u78 :: u79 :: u80 :: u81 :: u82 :: u83 :: u84 :: u85 :: u86 :: u87 :: u88 :: u89 :: u90 :: u91 :: u92 :: u93 :: u94 :: u95 :: u96 :: u97 :: u98 :: u99 :: u100 :: u101 :: u102 :: u103 :: u104 :: u105 :: u106 :: u107 :: u108 :: u109 :: u110 :: u111 :: u112 :: u113 :: u114 :: u115 :: u116 :: u117 :: u118 :: u119 :: u120 :: u121 :: u122 :: u123 :: u124 :: u125 :: u126 :: u127 :: u128 :: u129 :: u130 :: u131 :: u132 :: u133 :: u134 :: u135 :: u136 :: u137 :: u138 :: u139 :: u140 :: u141 :: u142 :: u143 :: u144 :: u145 :: u146 :: u147 :: u148 :: u149 :: u150 :: u151 :: u152 :: u153 :: u154 :: u155 :: u156 :: u157 :: u158 :: u159 :: u160 :: u161 :: u162 :: u163 :: u164 :: u165 :: u166 :: u167 :: u168 :: u169 :: u170 :: u171 :: u172 :: u173 :: u174 :: u175 :: u176 :: u177 :: u178 :: u179 :: u180 :: u181 :: u182 :: u183 :: u184 :: u185 :: u186 :: u187 :: u188 :: u189 :: u190 :: u191 :: u192 :: u193 :: u194 :: u195 :: u196 :: u197 :: u198 :: u199 :: u200 :: u201 :: u202 :: u203 :: u204 :: u205 :: u206 :: u207 :: u208 :: u209 :: u210 :: u211 :: u212 :: u213 :: u214 :: u215 :: u216 :: u217 :: u218 :: u219 :: u220 :: u221 :: u222 :: u223 :: u224 :: u225 :: u226 :: [])), []⟩ wq := by
 conv => arg 2; whnf
 go_loopw [8] (fun i wr => ∃ t : Nat, t ≤ 16 ∧ i = .int .i64 t ∧ wr.rowIs wb 104 80 (fun i => .int .u64 (if i < t then ((W i).toNat : Int) else 0)) ∧
   wr.rowIs hb 83 8 (w64 st) ∧ w3.grownBy wr (some hb)) (fun i _ => 16 - (intOf i).toNat)
 case atStart => exact ⟨0, Nat.zero_le _, rfl, hW0.congr fun i _ => rfl, hH0, hg0⟩
 case round =>
   clear hW0 hH0 hg0
   obtain ⟨t, ht, rfl, hWr, hH, hg⟩ := hrel
   by_cases hlt4 : t < 16
   · have HBq := Lib.hid (gb_bs hB3.out hg hA3)
     have hcell := hWr.cell (i := t) (by omega)
     have hfr := hWr.frozen t
     have ht16 : (t : Int) < 80 := by omega
     have hnum : ((numB ((M.drop (q + 8 * t)).take 8) 8 : Nat) : Int) = ((W t).toNat : Int) := by
       rw [HW16.out t hlt4, ← numB_w64]
     clear hK
     go_wp2_with (first
       | (refine wpList_bsCut rfl (.tmp 54) (.tmp 58) (.tmp 63) rfl HBq.out (q + 8 * t) (q + 8 * t + 8) rfl rfl (by omega) rfl (by omega) (by omega) (by omega) 8 (by omega) ?_; intro ad' hB'
          have HB' := Lib.hid hB'
          clear hB')
       | (go_at_call 73; refine (getBig_any _ _ 8 _ HB'.out (by omega) (by omega)).mono ?_; rintro e w' ⟨rfl, rfl⟩))
     go_roundw
     case rel =>
       refine ⟨t + 1, by omega, by go_num, (hWr.set t _).congr fun i hi => ?_, hH.setOther hwn _, gb_set hg hwb _⟩
       show (if i = t then _ else _) = _
       by_cases e : i = t
       · subst e
         rw [if_pos rfl, if_pos (by omega)]
         try (first | rfl | exact congrArg (Value.int .u64) hnum)
       · rw [if_neg e]
         by_cases h2 : i < t
         · rw [if_pos h2, if_pos (by omega)]
         · rw [if_neg h2, if_neg (by omega)]
     case measure => simp [intOf]; omega
   · obtain rfl : t = 16 := by omega
     go_wp2
     exact ⟨hWr, hH, hg⟩
set_option maxHeartbeats 16000000 in
set_option maxRecDepth 100000 in
theorem ref512_L5 {Q : Exit → Act → World → Prop} (w3 : World) (hb wb : Nat) (W : Nat → BitVec 64) (st : Nat → BitVec 64) {u0 u1 u2 u3 u4 u5 u6 u8 u10 u11 u12 u13 u14 u15 u16 u17 u18 u19 u20 u21 u22 u23 u24 u25 u26 u27 u28 u29 u30 u31 u32 u33 u34 u35 u36 u37 u38 u39 u40 u41 u42 u43 u44 u45 u46 u47 u48 u49 u50 u51 u52 u53 u54 u55 u56 u57 u58 u59 u60 u61 u62 u63 u64 u65 u66 u67 u68 u69 u70 u71 u72 u73 u74 u75 u76 u77 u78 u79 u80 u81 u82 u83 u84 u85 u86 u87 u88 u89 u90 u91 u92 u93 u94 u95 u96 u97 u98 u99 u100 u101 u102 u103 u104 u105 u106 u107 u108 u109 u110 u111 u112 u113 u114 u115 u116 u117 u118 u119 u120 u121 u122 u123 u124 u125 u126 u127 u128 u129 u130 u131 u132 u133 u134 u135 u136 u137 u138 u139 u140 u141 u142 u143 u144 u145 u146 u147 u148 u149 u150 u151 u152 u153 u154 u155 u156 u157 u158 u159 u160 u161 u162 u163 u164 u165 u166 u167 u168 u169 u170 u171 u172 u173 u174 u175 u176 u177 u178 u179 u180 u181 u182 u183 u184 u185 u186 u187 u188 u189 u190 u191 u192 u193 u194 u195 u196 u197 u198 u199 u200 u201 u202 u203 u204 u205 u206 u207 u208 u209 u210 u211 u212 u213 u214 u215 u216 u217 u218 u219 u220 u221 u222 u223 u224 u225 u226 : Value} {wq : World} (hwb : w3.heap.size ≤ wb) (hwn : hb ≠ wb) (HWs : Hid (∀ i, 16 ≤ i → W i = sig (W (i - 2)) 19 61 6 + W (i - 7) + sig (W (i - 15)) 1 8 7 + W (i - 16)))
   (hW0 : wq.rowIs wb 104 80 (fun i => .int .u64 (if i < 16 then ((W i).toNat : Int) else 0))) (hH0 : wq.rowIs hb 83 8 (w64 st)) (hg0 : w3.grownBy wq (some hb))
   (hK : ∀ (x9 x10 x11 x67 x68 x69 x70 x71 x72 x73 x74 x75 x76 x77 x78 x79 x80 x81 x82 x83 x84 x85 x86 x87 x88 x89 x90 x91 x92 x93 x94 x95 x96 x97 x98 x99 x100 x101 x102 x103 x104 x105 x106 x107 x108 x109 x110 x111 x112 x113 x114 x115 x116 x117 x118 x119 : Value) (w' : World), (w'.rowIs wb 104 80 (w64 W) ∧ w'.rowIs hb 83 8 (w64 st) ∧ w3.grownBy w' (some hb)) → Q (.exit 6) ⟨(List.toArray (u0 :: u1 :: u2 :: u3 :: u4 :: u5 :: u6 :: (.pointer (some ⟨wb, 0, none⟩)) :: u8 :: x9 :: x10 :: x11 :: u12 :: u13 :: u14 :: u15 :: u16 :: u17 :: u18 :: u19 :: u20 :: u21 :: u22 :: u23 :: u24 :: u25 :: u26 :: u27 :: u28 :: u29 :: u30 :: u31 :: u32 :: u33 :: u34 :: u35 :: u36 :: u37 :: u38 :: u39 :: u40 :: u41 :: u42 :: u43 :: u44 :: u45 :: u46 :: u47 :: u48 :: u49 :: u50 :: u51 :: u52 :: u53 :: u54 :: u55 :: u56 :: u57 :: u58 :: u59 :: u60 :: u61 :: u62 :: u63 :: u64 :: u65 :: u66 :: x67 :: x68 :: x69 :: x70 :: x71 :: x72 :: x73 :: x74 :: x75 :: x76 :: x77 :: x78 :: x79 :: x80 :: x81 :: x82 :: x83 :: x84 :: x85 :: x86 :: x87 :: x88 :: x89 :: x90 :: x91 :: x92 :: x93 :: x94 :: x95 :: x96 :: x97 :: x98 :: x99 :: x100 :: x101 :: x102 :: x103 :: x104 :: x105 :: x106 :: x107 :: x108 :: x109 :: x110 :: x111 :: x112 :: x113 :: x114 :: x115 :: x116 :: x117 :: x118 :: x119 :: u120 :: u121 :: u122 :: u123 :: u124 :: u125 :: u126 :: u127 :: u128 :: u129 :: u130 :: u131 :: u132 :: u133 :: u134 :: u135 :: u136 :: u137 :: u138 :: u139 :: u140 :: u141 :: u142 :: u143 :: u144 :: u145 :: u146 :: u147 :: u148 :: u149 :: u150 :: u151 :: u152 :: u153 :: u154 :: u155 :: u156 :: u157 :: u158 :: u159 :: u160 :: u161 :: u162 :: u163 :: u164 :: u165 :: u166 :: u167 :: u168 :: u169 :: u170 :: u171 :: u172 :: u173 :: u174 :: u175 :: u176 :: u177 :: u178 :: u179 :: u180 :: u181 :: u182 :: u183 :: u184 :: u185 :: u186 :: u187 :: u188 :: u189 :: u190 :: u191 :: u192 :: u193 :: u194 :: u195 :: u196 :: u197 :: u198 :: u199 :: u200 :: u201 :: u202 :: u203 :: u204 :: u205 :: u206 :: u207 :: u208 :: u209 :: u210 :: u211 :: u212 :: u213 :: u214 :: u215 :: u216 :: u217 :: u218 :: u219 :: u220 :: u221 :: u222 :: u223 :: u224 :: u225 :: u226 :: [])), []⟩ w') :
   Code.wp Tryz.prog (codeAt 6 Tryz.f29) Q ⟨(List.toArray (u0 :: u1 :: u2 :: u3 :: u4 :: u5 :: u6 :: (.pointer (some ⟨wb, 0, none⟩)) :: u8 :: (.int .i64 (16 : Int)) :: u10 :: u11 :: u12 :: u13 :: u14 :: u15 :: u16 :: u17 :: u18 :: u19 :: u20 :: u21 :: u22 :: u23 :: u24 :: u25 :: u26 :: u27 :: u28 :: u29 :: u30 :: u31 :: u32 :: u33 :: u34 :: u35 :: u36 :: u37 :: u38 :: u39 :: u40 :: u41 :: u42 :: u43 :: u44 :: u45 :: u46 :: u47 :: u48 :: u49 :: u50 :: u51 :: u52 :: u53 :: u54 :: u55 :: u56 :: u57 :: u58 :: u59 :: u60 :: u61 :: u62 :: u63 :: u64 :: u65 :: u66 :: u67 :: u68 :: u69 :: u70 :: u71 :: u72 :: u73 :: u74 :: u75 :: u76 :: u77 :: u78 :: u79 :: u80 :: u81 :: u82 :: u83 :: u84 :: u85 :: u86 :: u87 :: u88 :: u89 :: u90 :: u91 :: u92 :: u93 :: u94 :: u95 :: u96 :: u97 :: u98 :: u99 :: u100 :: u101 :: u102 :: u103 :: u104 :: u105 :: u106 :: u107 :: u108 :: u109 :: u110 :: u111 :: u112 :: u113 :: u114 :: u115 :: u116 :: u117 :: u118 :: u119 :: u120 :: u121 :: u122 :: u123 :: u124 :: u125 :: u126 :: u127 :: u128 :: u129 :: u130 :: u131 :: u132 :: u133 :: u134 :: u135 :: u136 :: u137 :: u138 :: u139 :: u140 :: u141 :: u142 :: u143 :: u144 :: u145 :: u146 :: u147 :: u148 :: u149 :: u150 :: u151 :: u152 :: u153 :: u154 :: u155 :: u156 :: u157 :: u158 :: u159 :: u160 :: u161 :: u162 :: u163 :: u164 :: u165 :: u166 :: u167 :: u168 :: u169 :: u170 :: u171 :: u172 :: u173 :: u174 :: u175 :: u176 :: u177 :: u178 :: u179 :: u180 :: u181 :: u182 :: u183 :: u184 :: u185 :: u186 :: u187 :: u188 :: u189 :: u190 :: u191 :: u192 :: u193 :: u194 :: u195 :: u196 :: u197 :: u198 :: u199 :: u200 :: u201 :: u202 :: u203 :: u204 :: u205 :: u206 :: u207 :: u208 :: u209 :: u210 :: u211 :: u212 :: u213 :: u214 :: u215 :: u216 :: u217 :: u218 :: u219 :: u220 :: u221 :: u222 :: u223 :: u224 :: u225 :: u226 :: [])), []⟩ wq := by
 conv => arg 2; whnf
 go_loopw [9] (fun i wr => ∃ t : Nat, 16 ≤ t ∧ t ≤ 80 ∧ i = .int .i64 t ∧ wr.rowIs wb 104 80 (fun i => .int .u64 (if i < t then ((W i).toNat : Int) else 0)) ∧
   wr.rowIs hb 83 8 (w64 st) ∧ w3.grownBy wr (some hb)) (fun i _ => 80 - (intOf i).toNat)
 case atStart => exact ⟨16, by omega, by omega, rfl, hW0, hH0, hg0⟩
 case round =>
   clear hW0 hH0 hg0
   obtain ⟨t, ht0, ht, rfl, hWr, hH, hg⟩ := hrel
   by_cases hlt5 : t < 80
   · clear hK
     have c15 := hWr.cell (i := t - 15) (by omega)
     have c2 := hWr.cell (i := t - 2) (by omega)
     have c7 := hWr.cell (i := t - 7) (by omega)
     have c16 := hWr.cell (i := t - 16) (by omega)
     have c0 := hWr.cell (i := t) (by omega)
     rw [if_pos (by omega)] at c15 c2 c7 c16
     rw [if_neg (by omega)] at c0
     have hfr := hWr.frozen t
     have b1 : (15 : Int) ≤ (t : Int) := by omega
     have b2 : (t : Int) < 80 := by omega
     have hs : IntKind.u64.signed = false := rfl
     go_wp2
     go_quiet ((go_at_call 74; exact Calls.quiet_of (rot64_lit _ _ _ (by omega) (by omega))))
     clear c15 c2 c7 c16 c0 hfr
     replace hWr : (wr.drewN nq).rowIs wb 104 80 _ := hWr
     replace hH : (wr.drewN nq).rowIs hb 83 8 _ := hH
     replace hg := gb_drew hg nq
     generalize wr.drewN nq = wz at hWr hH hg ⊢
     have c2 := hWr.cell (i := t - 2) (by omega)
     have c7 := hWr.cell (i := t - 7) (by omega)
     have c16 := hWr.cell (i := t - 16) (by omega)
     have c0 := hWr.cell (i := t) (by omega)
     rw [if_pos (by omega)] at c2 c7 c16
     rw [if_neg (by omega)] at c0
     have hfr := hWr.frozen t
     obtain ⟨S1, hS1⟩ : ∃ S1, S1 = sig (W (t - 15)) 1 8 7 := ⟨_, rfl⟩
     have e1 : bits .xor .u64 (bits .xor .u64 (rotr (W (t - 15)) 1).toNat (rotr (W (t - 15)) 8).toNat) (((W (t - 15)).toNat : Int) / 128) = (S1.toNat : Int) := by rw [hS1]; exact sig_val64 _ 1 8 7
     rw [e1]
     have HS1 := Lib.hid hS1
     clear hS1 e1
     go_wp2
     go_quiet ((go_at_call 74; exact Calls.quiet_of (rot64_lit _ _ _ (by omega) (by omega))))
     obtain ⟨S2, hS2⟩ : ∃ S2, S2 = sig (W (t - 2)) 19 61 6 := ⟨_, rfl⟩
     have e2 : bits .xor .u64 (bits .xor .u64 (rotr (W (t - 2)) 19).toNat (rotr (W (t - 2)) 61).toNat) (((W (t - 2)).toNat : Int) / 64) = (S2.toNat : Int) := by rw [hS2]; exact sig_val64 _ 19 61 6
     rw [e2]
     have HS2 := Lib.hid hS2
     clear hS2 e2 c2 c7 c16 c0 hfr
     replace hWr : (wz.drewN nq).rowIs wb 104 80 _ := hWr
     replace hH : (wz.drewN nq).rowIs hb 83 8 _ := hH
     replace hg := gb_drew hg nq
     generalize wz.drewN nq = wy at hWr hH hg ⊢
     have c7 := hWr.cell (i := t - 7) (by omega)
     have c16 := hWr.cell (i := t - 16) (by omega)
     have c0 := hWr.cell (i := t) (by omega)
     rw [if_pos (by omega)] at c7 c16
     rw [if_neg (by omega)] at c0
     have hfr := hWr.frozen t
     have w16 : IntKind.i64.wrap ((t : Int) - 16) = ((t - 16 : Nat) : Int) := by rw [IntWalk.i64_in _ (by omega)]; omega
     have w7 : IntKind.i64.wrap ((t : Int) - 7) = ((t - 7 : Nat) : Int) := by rw [IntWalk.i64_in _ (by omega)]; omega
     have m16 : ((t - 16 : Nat) : Int) < 80 := by omega
     have m7 : ((t - 7 : Nat) : Int) < 80 := by omega
     go_wp2
     replace hWr : wy.drew.rowIs wb 104 80 _ := hWr
     refine wp_noPan ?_
     refine wp_region_lins [(0, some [15]), (1, some [15]), (2, some [15]), (3, some [15]), (4, some [15]), (5, some [15]), (6, some [15]), (7, some [15]), (8, some [15]), (9, some [15]), (10, some [15]), (11, some [15]), (12, some [15]), (13, some [15]), (14, some [15]), (15, none)] (fun _ w' => w' = wy.drew) (by kernel_rfl) (by kernel_rfl) (by decide) (by kernel_rfl) (fun d _ _ _ _ h => by cases d <;> exact h) (fun _ _ => rfl) ?_
     refine lins_read 105 (Op.move (Operand.tmp 9)) 3 _ rfl rfl rfl rfl rfl (fun w0 hw0 => by unfold mkOp; go_simp; all_goals (with_reducible rfl)) ?_
     simp only [Act.put, List.setIfInBounds_toArray, List.set_cons_zero, List.set_cons_succ]
     refine lins_read 106 (Op.move (Operand.tmp 9)) 3 _ rfl rfl rfl rfl rfl (fun w0 hw0 => by unfold mkOp; go_simp; all_goals (with_reducible rfl)) ?_
     simp only [Act.put, List.setIfInBounds_toArray, List.set_cons_zero, List.set_cons_succ]
     refine lins_read 107 (Op.binOp BinOp.sub 3 (Operand.tmp 106) (Operand.const (Value.int IntKind.i64 16)) 3) 3 _ rfl rfl rfl rfl rfl (fun w0 hw0 => by unfold mkOp; go_simp; all_goals (with_reducible rfl)) ?_
     simp only [Act.put, List.setIfInBounds_toArray, List.set_cons_zero, List.set_cons_succ]
     refine lins_read 108 (Op.indexAddr 104 (Operand.tmp 7) (Operand.tmp 107)) 0 _ rfl rfl rfl rfl rfl (fun w0 hw0 => by unfold mkOp; go_simp; all_goals (with_reducible rfl)) ?_
     simp only [Act.put, List.setIfInBounds_toArray, List.set_cons_zero, List.set_cons_succ]
     refine lins_read 109 (Op.load 45 (Operand.tmp 108)) 45 (.int .u64 ((W (t - 16)).toNat : Int)) rfl rfl rfl rfl rfl (fun w0 hw0 => by obtain rfl := hw0 15 (by simp); exact exec_load_cell _ _ _ _ rfl (by kernel_rfl) c16) ?_
     simp only [Act.put, List.setIfInBounds_toArray, List.set_cons_zero, List.set_cons_succ]
     refine lins_read 110 (Op.move (Operand.tmp 10)) 45 _ rfl rfl rfl rfl rfl (fun w0 hw0 => by unfold mkOp; go_simp; all_goals (with_reducible rfl)) ?_
     simp only [Act.put, List.setIfInBounds_toArray, List.set_cons_zero, List.set_cons_succ]
     refine lins_read 111 (Op.binOp BinOp.add 45 (Operand.tmp 109) (Operand.tmp 110) 45) 45 _ rfl rfl rfl rfl rfl (fun w0 hw0 => by unfold mkOp; go_simp; all_goals (with_reducible rfl)) ?_
     simp only [Act.put, List.setIfInBounds_toArray, List.set_cons_zero, List.set_cons_succ]
     refine lins_read 112 (Op.move (Operand.tmp 9)) 3 _ rfl rfl rfl rfl rfl (fun w0 hw0 => by unfold mkOp; go_simp; all_goals (with_reducible rfl)) ?_
     simp only [Act.put, List.setIfInBounds_toArray, List.set_cons_zero, List.set_cons_succ]
     refine lins_read 113 (Op.binOp BinOp.sub 3 (Operand.tmp 112) (Operand.const (Value.int IntKind.i64 7)) 3) 3 _ rfl rfl rfl rfl rfl (fun w0 hw0 => by unfold mkOp; go_simp; all_goals (with_reducible rfl)) ?_
     simp only [Act.put, List.setIfInBounds_toArray, List.set_cons_zero, List.set_cons_succ]
     refine lins_read 114 (Op.indexAddr 104 (Operand.tmp 7) (Operand.tmp 113)) 0 _ rfl rfl rfl rfl rfl (fun w0 hw0 => by unfold mkOp; go_simp; all_goals (with_reducible rfl)) ?_
     simp only [Act.put, List.setIfInBounds_toArray, List.set_cons_zero, List.set_cons_succ]
     refine lins_read 115 (Op.load 45 (Operand.tmp 114)) 45 (.int .u64 ((W (t - 7)).toNat : Int)) rfl rfl rfl rfl rfl (fun w0 hw0 => by obtain rfl := hw0 15 (by simp); exact exec_load_cell _ _ _ _ rfl (by kernel_rfl) c7) ?_
     simp only [Act.put, List.setIfInBounds_toArray, List.set_cons_zero, List.set_cons_succ]
     refine lins_read 116 (Op.binOp BinOp.add 45 (Operand.tmp 111) (Operand.tmp 115) 45) 45 _ rfl rfl rfl rfl rfl (fun w0 hw0 => by unfold mkOp; go_simp; all_goals (with_reducible rfl)) ?_
     simp only [Act.put, List.setIfInBounds_toArray, List.set_cons_zero, List.set_cons_succ]
     refine lins_read 117 (Op.move (Operand.tmp 11)) 45 _ rfl rfl rfl rfl rfl (fun w0 hw0 => by unfold mkOp; go_simp; all_goals (with_reducible rfl)) ?_
     simp only [Act.put, List.setIfInBounds_toArray, List.set_cons_zero, List.set_cons_succ]
     refine lins_read 118 (Op.binOp BinOp.add 45 (Operand.tmp 116) (Operand.tmp 117) 45) 45 _ rfl rfl rfl rfl rfl (fun w0 hw0 => by unfold mkOp; go_simp; all_goals (with_reducible rfl)) ?_
     simp only [Act.put, List.setIfInBounds_toArray, List.set_cons_zero, List.set_cons_succ]
     refine lins_read 119 (Op.indexAddr 104 (Operand.tmp 7) (Operand.tmp 105)) 0 _ rfl rfl rfl rfl rfl (fun w0 hw0 => by unfold mkOp; go_simp; all_goals (with_reducible rfl)) ?_
     simp only [Act.put, List.setIfInBounds_toArray, List.set_cons_zero, List.set_cons_succ]
     refine lins_store_cell 45 (.tmp 119) (.tmp 118) rfl rfl rfl rfl hWr rfl rfl (by kernel_rfl) rfl rfl (by omega) ?_
     refine ⟨fun _ _ => True, fun c hc => (by cases hc), ?_⟩
     try simp only [Act.put, List.setIfInBounds_toArray, List.set_cons_zero, List.set_cons_succ]
     refine lins_end ?_
     simp only [NoPan]
     go_wp2
     go_roundw
     case rel =>
       (try ((repeat apply Exists.intro); refine ⟨?_, rfl⟩))
       refine ⟨t + 1, by omega, by omega, by go_num, (hWr.set t _).congr fun i hi => ?_, hH.setOther hwn _, ?_⟩
       · show (if i = t then _ else _) = _
         by_cases e : i = t
         · subst e
           rw [if_pos rfl, if_pos (by omega)]
           refine congrArg (Value.int .u64) ?_
           rw [HWs.out i ht0, ← HS1.out, ← HS2.out]
           exact ref_add4_64 _ _ _ _
         · rw [if_neg e]
           by_cases h2 : i < t
           · rw [if_pos h2, if_pos (by omega)]
           · rw [if_neg h2, if_neg (by omega)]
       · first | exact gb_set (gb_drew hg 1) hwb _ | exact gb_set hg hwb _ | exact gb_drew (gb_set (gb_drew hg _) hwb _) _ | exact gb_drew (gb_set hg hwb _) _ | exact gb_set (gb_drew hg _) hwb _
     case measure => simp [intOf]; omega
   · obtain rfl : t = 80 := by omega
     go_wp2
     exact ⟨hWr.congr fun i hi => by rw [if_pos hi]; rfl, hH, hg⟩
set_option maxHeartbeats 16000000 in
set_option maxRecDepth 100000 in
theorem ref512_L6 {Q : Exit → Act → World → Prop} (w3 : World) (rb hb wb vb : Nat) (W : Nat → BitVec 64) (s0 : S8 64) {u0 u1 u2 u4 u5 u6 u8 u9 u10 u11 u14 u15 u16 u17 u18 u19 u20 u21 u22 u23 u24 u25 u26 u27 u28 u29 u30 u31 u32 u33 u34 u35 u36 u37 u38 u39 u40 u41 u42 u43 u44 u45 u46 u47 u48 u49 u50 u51 u52 u53 u54 u55 u56 u57 u58 u59 u60 u61 u62 u63 u64 u65 u66 u67 u68 u69 u70 u71 u72 u73 u74 u75 u76 u77 u78 u79 u80 u81 u82 u83 u84 u85 u86 u87 u88 u89 u90 u91 u92 u93 u94 u95 u96 u97 u98 u99 u100 u101 u102 u103 u104 u105 u106 u107 u108 u109 u110 u111 u112 u113 u114 u115 u116 u117 u118 u119 u120 u121 u122 u123 u124 u125 u126 u127 u128 u129 u130 u131 u132 u133 u134 u135 u136 u137 u138 u139 u140 u141 u142 u143 u144 u145 u146 u147 u148 u149 u150 u151 u152 u153 u154 u155 u156 u157 u158 u159 u160 u161 u162 u163 u164 u165 u166 u167 u168 u169 u170 u171 u172 u173 u174 u175 u176 u177 u178 u179 u180 u181 u182 u183 u184 u185 u186 u187 u188 u189 u190 u191 u192 u193 u194 u195 u196 u197 u198 u199 u200 u201 u202 u203 u204 u205 u206 u207 u208 u209 u210 u211 u212 u213 u214 u215 u216 u217 u218 u219 u220 u221 u222 u223 u224 u225 u226 : Value} {wq : World} (hvb : w3.heap.size ≤ vb) (hvn : hb ≠ vb) (hwv : wb ≠ vb) (hrv : rb ≠ vb)
   (hV0 : wq.rowIs vb 83 8 (w64 s0.at)) (hW0 : wq.rowIs wb 104 80 (w64 W)) (hR0 : wq.rowIs rb 104 80 (w64 K64)) (hH0 : wq.rowIs hb 83 8 (w64 s0.at)) (hg0 : w3.grownBy wq (some hb))
   (hK : ∀ (x13 x14 x15 x16 x17 x121 x122 x123 x124 x125 x126 x127 x128 x129 x130 x131 x132 x133 x134 x135 x136 x137 x138 x139 x140 x141 x142 x143 x144 x145 x146 x147 x148 x149 x150 x151 x152 x153 x154 x155 x156 x157 x158 x159 x160 x161 x162 x163 x164 x165 x166 x167 x168 x169 x170 x171 x172 x173 x174 x175 x176 x177 x178 x179 x180 x181 x182 x183 x184 x185 x186 x187 x188 x189 x190 x191 x192 x193 x194 x195 x196 x197 x198 x199 x200 x201 x202 : Value) (w' : World), (w'.rowIs vb 83 8 (w64 (k512.rnd W s0 80).at) ∧ w'.rowIs wb 104 80 (w64 W) ∧ w'.rowIs rb 104 80 (w64 K64) ∧ w'.rowIs hb 83 8 (w64 s0.at) ∧ w3.grownBy w' (some hb)) → Q (.exit 8) ⟨(List.toArray (u0 :: u1 :: u2 :: (.pointer (some ⟨rb, 0, none⟩)) :: u4 :: u5 :: u6 :: (.pointer (some ⟨wb, 0, none⟩)) :: u8 :: u9 :: u10 :: u11 :: (.pointer (some ⟨vb, 0, none⟩)) :: x13 :: x14 :: x15 :: x16 :: x17 :: u18 :: u19 :: u20 :: u21 :: u22 :: u23 :: u24 :: u25 :: u26 :: u27 :: u28 :: u29 :: u30 :: u31 :: u32 :: u33 :: u34 :: u35 :: u36 :: u37 :: u38 :: u39 :: u40 :: u41 :: u42 :: u43 :: u44 :: u45 :: u46 :: u47 :: u48 :: u49 :: u50 :: u51 :: u52 :: u53 :: u54 :: u55 :: u56 :: u57 :: u58 :: u59 :: u60 :: u61 :: u62 :: u63 :: u64 :: u65 :: u66 :: u67 :: u68 :: u69 :: u70 :: u71 :: u72 :: u73 :: u74 :: u75 :: u76 :: u77 :: u78 :: u79 :: u80 :: u81 :: u82 :: u83 :: u84 :: u85 :: u86 :: u87 :: u88 :: u89 :: u90 :: u91 :: u92 :: u93 :: u94 :: u95 :: u96 :: u97 :: u98 :: u99 :: u100 :: u101 :: u102 :: u103 :: u104 :: u105 :: u106 :: u107 :: u108 :: u109 :: u110 :: u111 :: u112 :: u113 :: u114 :: u115 :: u116 :: u117 :: u118 :: u119 :: u120 :: x121 :: x122 :: x123 :: x124 :: x125 :: x126 :: x127 :: x128 :: x129 :: x130 :: x131 :: x132 :: x133 :: x134 :: x135 :: x136 :: x137 :: x138 :: x139 :: x140 :: x141 :: x142 :: x143 :: x144 :: x145 :: x146 :: x147 :: x148 :: x149 :: x150 :: x151 :: x152 :: x153 :: x154 :: x155 :: x156 :: x157 :: x158 :: x159 :: x160 :: x161 :: x162 :: x163 :: x164 :: x165 :: x166 :: x167 :: x168 :: x169 :: x170 :: x171 :: x172 :: x173 :: x174 :: x175 :: x176 :: x177 :: x178 :: x179 :: x180 :: x181 :: x182 :: x183 :: x184 :: x185 :: x186 :: x187 :: x188 :: x189 :: x190 :: x191 :: x192 :: x193 :: x194 :: x195 :: x196 :: x197 :: x198 :: x199 :: x200 :: x201 :: x202 :: u203 :: u204 :: u205 :: u206 :: u207 :: u208 :: u209 :: u210 :: u211 :: u212 :: u213 :: u214 :: u215 :: u216 :: u217 :: u218 :: u219 :: u220 :: u221 :: u222 :: u223 :: u224 :: u225 :: u226 :: [])), []⟩ w') :
   Code.wp Tryz.prog (codeAt 8 Tryz.f29) Q ⟨(List.toArray (u0 :: u1 :: u2 :: (.pointer (some ⟨rb, 0, none⟩)) :: u4 :: u5 :: u6 :: (.pointer (some ⟨wb, 0, none⟩)) :: u8 :: u9 :: u10 :: u11 :: (.pointer (some ⟨vb, 0, none⟩)) :: (.int .i64 (0 : Int)) :: u14 :: u15 :: u16 :: u17 :: u18 :: u19 :: u20 :: u21 :: u22 :: u23 :: u24 :: u25 :: u26 :: u27 :: u28 :: u29 :: u30 :: u31 :: u32 :: u33 :: u34 :: u35 :: u36 :: u37 :: u38 :: u39 :: u40 :: u41 :: u42 :: u43 :: u44 :: u45 :: u46 :: u47 :: u48 :: u49 :: u50 :: u51 :: u52 :: u53 :: u54 :: u55 :: u56 :: u57 :: u58 :: u59 :: u60 :: u61 :: u62 :: u63 :: u64 :: u65 :: u66 :: u67 :: u68 :: u69 :: u70 :: u71 :: u72 :: u73 :: u74 :: u75 :: u76 :: u77 :: u78 :: u79 :: u80 :: u81 :: u82 :: u83 :: u84 :: u85 :: u86 :: u87 :: u88 :: u89 :: u90 :: u91 :: u92 :: u93 :: u94 :: u95 :: u96 :: u97 :: u98 :: u99 :: u100 :: u101 :: u102 :: u103 :: u104 :: u105 :: u106 :: u107 :: u108 :: u109 :: u110 :: u111 :: u112 :: u113 :: u114 :: u115 :: u116 :: u117 :: u118 :: u119 :: u120 :: u121 :: u122 :: u123 :: u124 :: u125 :: u126 :: u127 :: u128 :: u129 :: u130 :: u131 :: u132 :: u133 :: u134 :: u135 :: u136 :: u137 :: u138 :: u139 :: u140 :: u141 :: u142 :: u143 :: u144 :: u145 :: u146 :: u147 :: u148 :: u149 :: u150 :: u151 :: u152 :: u153 :: u154 :: u155 :: u156 :: u157 :: u158 :: u159 :: u160 :: u161 :: u162 :: u163 :: u164 :: u165 :: u166 :: u167 :: u168 :: u169 :: u170 :: u171 :: u172 :: u173 :: u174 :: u175 :: u176 :: u177 :: u178 :: u179 :: u180 :: u181 :: u182 :: u183 :: u184 :: u185 :: u186 :: u187 :: u188 :: u189 :: u190 :: u191 :: u192 :: u193 :: u194 :: u195 :: u196 :: u197 :: u198 :: u199 :: u200 :: u201 :: u202 :: u203 :: u204 :: u205 :: u206 :: u207 :: u208 :: u209 :: u210 :: u211 :: u212 :: u213 :: u214 :: u215 :: u216 :: u217 :: u218 :: u219 :: u220 :: u221 :: u222 :: u223 :: u224 :: u225 :: u226 :: [])), []⟩ wq := by
 conv => arg 2; whnf
 go_loopw [13] (fun i wr => ∃ (t : Nat) (s' : S8 64), t ≤ 80 ∧ Hid (s' = k512.rnd W s0 t) ∧ i = .int .i64 t ∧ wr.rowIs vb 83 8 (w64 s'.at) ∧ wr.rowIs wb 104 80 (w64 W) ∧
   wr.rowIs rb 104 80 (w64 K64) ∧ wr.rowIs hb 83 8 (w64 s0.at) ∧ w3.grownBy wr (some hb)) (fun i _ => 80 - (intOf i).toNat)
 case atStart => exact ⟨0, s0, by omega, rfl, rfl, hV0, hW0, hR0, hH0, hg0⟩
 case round =>
   clear hV0 hW0 hR0 hH0 hg0
   obtain ⟨t, s', ht, HS, rfl, hV, hWr, hRr, hH, hg⟩ := hrel
   by_cases hlt6 : t < 80
   · clear hK
     have v0 : wr.cell? ⟨vb, 0, none⟩ = some (.int .u64 (s'.a.toNat : Int)) := hV.cell (i := 0) (by omega)
     have v1 : wr.cell? ⟨vb, 1, none⟩ = some (.int .u64 (s'.b.toNat : Int)) := hV.cell (i := 1) (by omega)
     have v2 : wr.cell? ⟨vb, 2, none⟩ = some (.int .u64 (s'.c.toNat : Int)) := hV.cell (i := 2) (by omega)
     have v3 : wr.cell? ⟨vb, 3, none⟩ = some (.int .u64 (s'.d.toNat : Int)) := hV.cell (i := 3) (by omega)
     have v4 : wr.cell? ⟨vb, 4, none⟩ = some (.int .u64 (s'.e.toNat : Int)) := hV.cell (i := 4) (by omega)
     have v5 : wr.cell? ⟨vb, 5, none⟩ = some (.int .u64 (s'.f.toNat : Int)) := hV.cell (i := 5) (by omega)
     have v6 : wr.cell? ⟨vb, 6, none⟩ = some (.int .u64 (s'.g.toNat : Int)) := hV.cell (i := 6) (by omega)
     have v7 : wr.cell? ⟨vb, 7, none⟩ = some (.int .u64 (s'.h.toNat : Int)) := hV.cell (i := 7) (by omega)
     have cw : wr.cell? ⟨wb, t, none⟩ = some (.int .u64 ((W t).toNat : Int)) := hWr.cell (by omega)
     have ck : wr.cell? ⟨rb, t, none⟩ = some (.int .u64 ((K64 t).toNat : Int)) := hRr.cell (by omega)
     have b2 : (t : Int) < 80 := by omega
     have b3 : (t : Int) < 80 := by omega
     have hs : IntKind.u32.signed = false := rfl
     have hs2 : IntKind.u64.signed = false := rfl
     go_wp2
     go_quiet ((go_at_call 74; exact Calls.quiet_of (rot64_lit _ _ _ (by omega) (by omega))))
     clear v0 v1 v2 v3 v4 v5 v6 v7 cw ck
     replace hWr : (wr.drewN nq).rowIs wb 104 80 _ := hWr
     replace hH : (wr.drewN nq).rowIs hb 83 8 _ := hH
     replace hV : (wr.drewN nq).rowIs vb 83 8 _ := hV
     replace hRr : (wr.drewN nq).rowIs rb 104 80 _ := hRr
     replace hg := gb_drew hg nq
     generalize wr.drewN nq = wz at hWr hH hV hRr hg ⊢
     have v0 : wz.cell? ⟨vb, 0, none⟩ = some (.int .u64 (s'.a.toNat : Int)) := hV.cell (i := 0) (by omega)
     have v1 : wz.cell? ⟨vb, 1, none⟩ = some (.int .u64 (s'.b.toNat : Int)) := hV.cell (i := 1) (by omega)
     have v2 : wz.cell? ⟨vb, 2, none⟩ = some (.int .u64 (s'.c.toNat : Int)) := hV.cell (i := 2) (by omega)
     have v3 : wz.cell? ⟨vb, 3, none⟩ = some (.int .u64 (s'.d.toNat : Int)) := hV.cell (i := 3) (by omega)
     have v4 : wz.cell? ⟨vb, 4, none⟩ = some (.int .u64 (s'.e.toNat : Int)) := hV.cell (i := 4) (by omega)
     have v5 : wz.cell? ⟨vb, 5, none⟩ = some (.int .u64 (s'.f.toNat : Int)) := hV.cell (i := 5) (by omega)
     have v6 : wz.cell? ⟨vb, 6, none⟩ = some (.int .u64 (s'.g.toNat : Int)) := hV.cell (i := 6) (by omega)
     have v7 : wz.cell? ⟨vb, 7, none⟩ = some (.int .u64 (s'.h.toNat : Int)) := hV.cell (i := 7) (by omega)
     obtain ⟨tt, htt⟩ : ∃ tt : BitVec 64, tt = W t + (s'.h + tri s'.e 14 18 41 + chz s'.e s'.f s'.g + K64 t) := ⟨_, rfl⟩
     have ett := ref_t64 (W t) s'.h (tri s'.e 14 18 41) (chz s'.e s'.f s'.g) t
     have ht1 := tri_val64 s'.e
     have ht3 := chz_val64 s'.e s'.f s'.g
     rw [ht1, ht3]
     rw [← htt] at ett
     rw [ett]
     have HTT := Lib.hid htt
     clear htt ett ht1 ht3
     go_wp2
     go_quiet ((go_at_call 74; exact Calls.quiet_of (rot64_lit _ _ _ (by omega) (by omega))))
     obtain ⟨uu, huu⟩ : ∃ uu : BitVec 64, uu = tri s'.a 28 34 39 + maj s'.a s'.b s'.c := ⟨_, rfl⟩
     have euu := ref_u64 (tri s'.a 28 34 39) (maj s'.a s'.b s'.c)
     have ht2 := tri_val64 s'.a
     have ht4 := maj_val64 s'.a s'.b s'.c
     rw [ht2, ht4]
     rw [← huu] at euu
     rw [euu]
     have HUU := Lib.hid huu
     clear huu euu ht2 ht4
     clear v7
     replace hWr : (wz.drewN nq).rowIs wb 104 80 _ := hWr
     replace hH : (wz.drewN nq).rowIs hb 83 8 _ := hH
     replace hV : (wz.drewN nq).rowIs vb 83 8 _ := hV
     replace hRr : (wz.drewN nq).rowIs rb 104 80 _ := hRr
     replace hg := gb_drew hg nq
     generalize wz.drewN nq = wy at hWr hH hV hRr hg ⊢
     clear v0 v1 v2 v3 v4 v5 v6
     have v0 : wy.cell? ⟨vb, 0, none⟩ = some (.int .u64 (s'.a.toNat : Int)) := hV.cell (i := 0) (by omega)
     have v1 : wy.cell? ⟨vb, 1, none⟩ = some (.int .u64 (s'.b.toNat : Int)) := hV.cell (i := 1) (by omega)
     have v2 : wy.cell? ⟨vb, 2, none⟩ = some (.int .u64 (s'.c.toNat : Int)) := hV.cell (i := 2) (by omega)
     have v3 : wy.cell? ⟨vb, 3, none⟩ = some (.int .u64 (s'.d.toNat : Int)) := hV.cell (i := 3) (by omega)
     have v4 : wy.cell? ⟨vb, 4, none⟩ = some (.int .u64 (s'.e.toNat : Int)) := hV.cell (i := 4) (by omega)
     have v5 : wy.cell? ⟨vb, 5, none⟩ = some (.int .u64 (s'.f.toNat : Int)) := hV.cell (i := 5) (by omega)
     have v6 : wy.cell? ⟨vb, 6, none⟩ = some (.int .u64 (s'.g.toNat : Int)) := hV.cell (i := 6) (by omega)
     have v7 : wy.cell? ⟨vb, 7, none⟩ = some (.int .u64 (s'.h.toNat : Int)) := hV.cell (i := 7) (by omega)
     go_wp2_with (first
       | refine wpList_build_arr rfl 83 _ rfl (arrOf 8 (sel64 (((tt.toNat : Int) + uu.toNat) % 18446744073709551616) s'.a.toNat s'.b.toNat s'.c.toNat (((s'.d.toNat : Int) + tt.toNat) % 18446744073709551616) s'.e.toNat s'.f.toNat s'.g.toNat)) (by kernel_rfl) ?_
       | (refine wpList_store_arr rfl 83 (.tmp 12) (.tmp 202) rfl 8 arr8_64 hV rfl rfl (by omega) (sel64_one _ _ _ _ _ _ _ _) ?_; intro w6 hV6 hg6 hs6))
     go_roundw
     case rel =>
       (try ((repeat apply Exists.intro); refine ⟨?_, rfl⟩))
       refine ⟨t + 1, k512.step (k512.num t) (W t) s', by omega, by rw [HS.out]; rfl, by go_num, hV6.congr fun i hi => ?_, gb_rowIs hWr hg6 hwv, gb_rowIs hRr hg6 hrv, gb_rowIs hH hg6 hvn, gb_row hg hg6 hvb⟩
       unfold putN
       rw [if_pos (by omega), Nat.sub_zero]
       refine sel64_state (k512.step (k512.num t) (W t) s') _ _ _ _ _ _ _ _ ?_ rfl rfl rfl ?_ rfl rfl rfl i hi
       · refine (add64 tt uu).trans ?_
         rw [HTT.out, HUU.out, ← BitVec.add_assoc]
         rfl
       · refine (add64 s'.d tt).trans ?_
         rw [HTT.out]
         rfl
     case measure => simp [intOf]; omega
   · obtain rfl : t = 80 := by omega
     go_wp2
     exact ⟨by rw [← HS.out]; exact hV, hWr, hRr, hH, hg⟩
set_option maxHeartbeats 16000000 in
set_option maxRecDepth 100000 in
theorem ref512_L7 {Q : Exit → Act → World → Prop} (w3 : World) (hb vb : Nat) (s0 s1 : S8 64) {u0 u1 u2 u3 u5 u6 u7 u8 u9 u10 u11 u13 u14 u15 u16 u17 u19 u20 u21 u22 u23 u24 u25 u26 u27 u28 u29 u30 u31 u32 u33 u34 u35 u36 u37 u38 u39 u40 u41 u42 u43 u44 u45 u46 u47 u48 u49 u50 u51 u52 u53 u54 u55 u56 u57 u58 u59 u60 u61 u62 u63 u64 u65 u66 u67 u68 u69 u70 u71 u72 u73 u74 u75 u76 u77 u78 u79 u80 u81 u82 u83 u84 u85 u86 u87 u88 u89 u90 u91 u92 u93 u94 u95 u96 u97 u98 u99 u100 u101 u102 u103 u104 u105 u106 u107 u108 u109 u110 u111 u112 u113 u114 u115 u116 u117 u118 u119 u120 u121 u122 u123 u124 u125 u126 u127 u128 u129 u130 u131 u132 u133 u134 u135 u136 u137 u138 u139 u140 u141 u142 u143 u144 u145 u146 u147 u148 u149 u150 u151 u152 u153 u154 u155 u156 u157 u158 u159 u160 u161 u162 u163 u164 u165 u166 u167 u168 u169 u170 u171 u172 u173 u174 u175 u176 u177 u178 u179 u180 u181 u182 u183 u184 u185 u186 u187 u188 u189 u190 u191 u192 u193 u194 u195 u196 u197 u198 u199 u200 u201 u202 u203 u204 u205 u206 u207 u208 u209 u210 u211 u212 u213 u214 u215 u216 u217 u218 u219 u220 u221 u222 u223 u224 u225 u226 : Value} {wq : World} (hvn : hb ≠ vb) (hV0 : wq.rowIs vb 83 8 (w64 s1.at)) (hH0 : wq.rowIs hb 83 8 (w64 s0.at)) (hg0 : w3.grownBy wq (some hb))
   (hK : ∀ (x18 x203 x204 x205 x206 x207 x208 x209 x210 x211 x212 x213 x214 x215 : Value) (w' : World), (w'.rowIs hb 83 8 (w64 (S8.add s0 s1).at) ∧ w3.grownBy w' (some hb)) → Q (.exit 10) ⟨(List.toArray (u0 :: u1 :: u2 :: u3 :: (.pointer (some ⟨hb, 0, none⟩)) :: u5 :: u6 :: u7 :: u8 :: u9 :: u10 :: u11 :: (.pointer (some ⟨vb, 0, none⟩)) :: u13 :: u14 :: u15 :: u16 :: u17 :: x18 :: u19 :: u20 :: u21 :: u22 :: u23 :: u24 :: u25 :: u26 :: u27 :: u28 :: u29 :: u30 :: u31 :: u32 :: u33 :: u34 :: u35 :: u36 :: u37 :: u38 :: u39 :: u40 :: u41 :: u42 :: u43 :: u44 :: u45 :: u46 :: u47 :: u48 :: u49 :: u50 :: u51 :: u52 :: u53 :: u54 :: u55 :: u56 :: u57 :: u58 :: u59 :: u60 :: u61 :: u62 :: u63 :: u64 :: u65 :: u66 :: u67 :: u68 :: u69 :: u70 :: u71 :: u72 :: u73 :: u74 :: u75 :: u76 :: u77 :: u78 :: u79 :: u80 :: u81 :: u82 :: u83 :: u84 :: u85 :: u86 :: u87 :: u88 :: u89 :: u90 :: u91 :: u92 :: u93 :: u94 :: u95 :: u96 :: u97 :: u98 :: u99 :: u100 :: u101 :: u102 :: u103 :: u104 :: u105 :: u106 :: u107 :: u108 :: u109 :: u110 :: u111 :: u112 :: u113 :: u114 :: u115 :: u116 :: u117 :: u118 :: u119 :: u120 :: u121 :: u122 :: u123 :: u124 :: u125 :: u126 :: u127 :: u128 :: u129 :: u130 :: u131 :: u132 :: u133 :: u134 :: u135 :: u136 :: u137 :: u138 :: u139 :: u140 :: u141 :: u142 :: u143 :: u144 :: u145 :: u146 :: u147 :: u148 :: u149 :: u150 :: u151 :: u152 :: u153 :: u154 :: u155 :: u156 :: u157 :: u158 :: u159 :: u160 :: u161 :: u162 :: u163 :: u164 :: u165 :: u166 :: u167 :: u168 :: u169 :: u170 :: u171 :: u172 :: u173 :: u174 :: u175 :: u176 :: u177 :: u178 :: u179 :: u180 :: u181 :: u182 :: u183 :: u184 :: u185 :: u186 :: u187 :: u188 :: u189 :: u190 :: u191 :: u192 :: u193 :: u194 :: u195 :: u196 :: u197 :: u198 :: u199 :: u200 :: u201 :: u202 :: x203 :: x204 :: x205 :: x206 :: x207 :: x208 :: x209 :: x210 :: x211 :: x212 :: x213 :: x214 :: x215 :: u216 :: u217 :: u218 :: u219 :: u220 :: u221 :: u222 :: u223 :: u224 :: u225 :: u226 :: [])), []⟩ w') :
   Code.wp Tryz.prog (codeAt 10 Tryz.f29) Q ⟨(List.toArray (u0 :: u1 :: u2 :: u3 :: (.pointer (some ⟨hb, 0, none⟩)) :: u5 :: u6 :: u7 :: u8 :: u9 :: u10 :: u11 :: (.pointer (some ⟨vb, 0, none⟩)) :: u13 :: u14 :: u15 :: u16 :: u17 :: (.int .i64 (0 : Int)) :: u19 :: u20 :: u21 :: u22 :: u23 :: u24 :: u25 :: u26 :: u27 :: u28 :: u29 :: u30 :: u31 :: u32 :: u33 :: u34 :: u35 :: u36 :: u37 :: u38 :: u39 :: u40 :: u41 :: u42 :: u43 :: u44 :: u45 :: u46 :: u47 :: u48 :: u49 :: u50 :: u51 :: u52 :: u53 :: u54 :: u55 :: u56 :: u57 :: u58 :: u59 :: u60 :: u61 :: u62 :: u63 :: u64 :: u65 :: u66 :: u67 :: u68 :: u69 :: u70 :: u71 :: u72 :: u73 :: u74 :: u75 :: u76 :: u77 :: u78 :: u79 :: u80 :: u81 :: u82 :: u83 :: u84 :: u85 :: u86 :: u87 :: u88 :: u89 :: u90 :: u91 :: u92 :: u93 :: u94 :: u95 :: u96 :: u97 :: u98 :: u99 :: u100 :: u101 :: u102 :: u103 :: u104 :: u105 :: u106 :: u107 :: u108 :: u109 :: u110 :: u111 :: u112 :: u113 :: u114 :: u115 :: u116 :: u117 :: u118 :: u119 :: u120 :: u121 :: u122 :: u123 :: u124 :: u125 :: u126 :: u127 :: u128 :: u129 :: u130 :: u131 :: u132 :: u133 :: u134 :: u135 :: u136 :: u137 :: u138 :: u139 :: u140 :: u141 :: u142 :: u143 :: u144 :: u145 :: u146 :: u147 :: u148 :: u149 :: u150 :: u151 :: u152 :: u153 :: u154 :: u155 :: u156 :: u157 :: u158 :: u159 :: u160 :: u161 :: u162 :: u163 :: u164 :: u165 :: u166 :: u167 :: u168 :: u169 :: u170 :: u171 :: u172 :: u173 :: u174 :: u175 :: u176 :: u177 :: u178 :: u179 :: u180 :: u181 :: u182 :: u183 :: u184 :: u185 :: u186 :: u187 :: u188 :: u189 :: u190 :: u191 :: u192 :: u193 :: u194 :: u195 :: u196 :: u197 :: u198 :: u199 :: u200 :: u201 :: u202 :: u203 :: u204 :: u205 :: u206 :: u207 :: u208 :: u209 :: u210 :: u211 :: u212 :: u213 :: u214 :: u215 :: u216 :: u217 :: u218 :: u219 :: u220 :: u221 :: u222 :: u223 :: u224 :: u225 :: u226 :: [])), []⟩ wq := by
 conv => arg 2; whnf
 go_loopw [18] (fun i wr => ∃ t : Nat, t ≤ 8 ∧ i = .int .i64 t ∧ wr.rowIs hb 83 8 (fun i => .int .u64 ((if i < t then s0.at i + s1.at i else s0.at i).toNat : Int)) ∧
   wr.rowIs vb 83 8 (w64 s1.at) ∧ w3.grownBy wr (some hb)) (fun i _ => 8 - (intOf i).toNat)
 case atStart => exact ⟨0, by omega, rfl, hH0.congr fun i _ => rfl, hV0, hg0⟩
 case round =>
   clear hV0 hH0 hg0
   obtain ⟨t, ht, rfl, hH, hV, hg⟩ := hrel
   by_cases hlt7 : t < 8
   · clear hK
     have c0 := hH.cell (i := t) (by omega)
     rw [if_neg (by omega)] at c0
     have c1 : wr.cell? ⟨vb, t, none⟩ = some (.int .u64 ((s1.at t).toNat : Int)) := hV.cell hlt7
     have hfr := hH.frozen t
     have b2 : (t : Int) < 8 := by omega
     go_wp2
     go_region
     go_wp2
     go_roundw
     case rel =>
       (try ((repeat apply Exists.intro); refine ⟨?_, rfl⟩))
       refine ⟨t + 1, by omega, by go_num, (hH.set t _).congr fun i hi => ?_, hV.setOther (Ne.symm hvn) _, ?_⟩
       · show (if i = t then _ else _) = _
         by_cases e : i = t
         · subst e
           rw [if_pos rfl, if_pos (by omega)]
           exact congrArg (Value.int .u64) (add64 _ _)
         · rw [if_neg e]
           by_cases h2 : i < t
           · rw [if_pos h2, if_pos (by omega)]
           · rw [if_neg h2, if_neg (by omega)]
       · first | exact gb_drew (gb_setb hg _) _ | exact gb_setb (gb_drew hg _) _ | exact gb_setb hg _
     case measure => simp [intOf]; omega
   · obtain rfl : t = 8 := by omega
     go_wp2
     refine ⟨hH.congr fun i hi => ?_, hg⟩
     rw [if_pos hi]
     show _ = Value.int .u64 (((S8.add s0 s1).at i).toNat : Int)
     rw [S8.at_add]
theorem u8s_zeros (k : Nat) : u8s (List.replicate k 0) = (Builtin.zeroCells (Value.int .u8 0).cells k).toList := by
 apply List.ext_getElem?
 intro i
 by_cases h : i < k
 · simp [u8s, Builtin.zeroCells, Value.cells, h, Nat.mod_one]
 · simp [u8s, Builtin.zeroCells, Value.cells, h]
theorem run_app_zeros {w : World} {base : Nat} {v : Value} {l : List UInt8} (hown : Owns w base v l) (hl0 : 0 < l.length) (k : Nat) (hk : 0 < k) (hlen : l.length + k ≤ 2147483647) (hbase : base ≤ w.heap.size) (ty : TypeId) :
   ∃ v' w', (Builtin.append_ #[22, 3] ty #[v, .int .i64 (k : Int)]).run Tryz.prog w = .ok v' w' ∧ Owns w' base v' (l ++ List.replicate k 0) ∧ w.grownBy w' v.ownBlock := by
 obtain ⟨i, hi, hz, hs1, hb1⟩ := info_parts Try.info5
 have ht : Tryz.prog.underlying 22 = some (.slice 5) := Tryz.underlying22
 have htn : Tryz.prog.underlying 3 = some (.int .i64) := Tryz.underlying3
 obtain ⟨news, hnews⟩ : ∃ news, news = u8s (List.replicate k 0) := ⟨_, rfl⟩
 have hnl : news.length = k := by rw [hnews, u8s_length, List.length_replicate]
 have hzc : (Builtin.zeroCells (Value.int .u8 0).cells k).toList = news := by rw [hnews, u8s_zeros]
 have h1 : ∀ u ∈ news, u.oneCell' = true := by
   intro u hu
   rw [hnews] at hu
   simp only [u8s, List.mem_map] at hu
   obtain ⟨b, _, rfl⟩ := hu
   rfl
 have hxs : u8s (l ++ List.replicate k 0) = u8s l ++ news := by rw [u8s_append, hnews]
 have hlen2 : (l ++ List.replicate k (0 : UInt8)).length = l.length + k := by simp
 have hw : IntKind.i64.wrap (k : Int) = k := IntWalk.i64_in _ (by omega)
 have hneg : ¬ ((k : Int) < 0) := by omega
 have h48i : ¬ (281474976710656 < (k : Int) * (i.bytes : Int)) := by rw [hb1]; omega
 have hk0 : k ≠ 0 := by omega
 rcases hown.2 with ⟨rfl, hn⟩ | ⟨g, cap, cur, rfl, hbg, hg, hnc, hcm, hcs, htake⟩
 · omega
 · by_cases hroom : l.length + k ≤ cap
   · have hfit : l.length + news.length ≤ cur.size := by rw [hnl, hcs]; omega
     have hst := Go.run_storeCells_at Tryz.prog g l.length 5 news 0 cur w hg (by simpa using hfit) h1
     simp only [Nat.add_zero] at hst
     refine ⟨.slice (some ⟨g, 0, none⟩) (l.length + k) cap, w.setRow g (cur.toList.take l.length ++ news ++ cur.toList.drop (l.length + news.length)).toArray, ?_, ?_, ?_⟩
     · simp [Builtin.append_, run_underlying ht, run_underlying htn, sizeOf, typeInfo, zeroValue, hi, hz, hs1, asInt, asIntOf, hw, hneg, h48i, hk0, hroom, Addr.add_lit, hzc, hst]
     · unfold Owns
       rw [hxs, hlen2]
       refine ⟨by rw [List.length_append, u8s_length, hnl]; omega, .inr ⟨g, cap, _, rfl, hbg, setRow_heap w g cur _ 5 _ hg, hroom, hcm, ?_, ?_⟩⟩
       · simp only [List.size_toArray, List.length_append, List.length_take, List.length_drop, Array.length_toList]
         omega
       · have htake' : cur.toList.take l.length = u8s l := by simpa using htake
         simp only [Nat.mul_one]
         rw [htake']
         have e : (u8s l ++ news).length = l.length + k := by rw [List.length_append, u8s_length, hnl]
         rw [← e]
         exact List.take_left
     · exact ⟨rfl, rfl, rfl, by simp, fun j _ hj => setRow_other w g j _ (fun e => hj (by simp [Value.ownBlock, e]))⟩
   · have holds : ∀ j u, (u8s l)[j]? = some u → w.drew.cell? ((⟨g, 0, none⟩ : Addr).add j) = some u := World.ownsRow.cells hown (g := g) rfl
     have hfo := run_firstCells_some (P := Tryz.prog) w.drew 1 l.length ⟨g, 0, none⟩ l.length cap (u8s l) (by rw [u8s_length]; omega) holds
     have h63' : ¬ (9223372036854775807 < ((l.length : Int) + (k : Int))) := by omega
     have h48' : ¬ (281474976710656 < Builtin.nextslicecap (l.length + k) cap * i.bytes) := by
       have := growslice_fits (need := l.length + k) (old := cap) (bytes := i.bytes) (by omega) (by rw [hb1]; omega)
       omega
     obtain ⟨N, hN⟩ : ∃ N, N = (u8s l).toArray ++ Builtin.zeroCells (Value.int .u8 0).cells k ++ Builtin.zeroCells (Value.int .u8 0).cells (grownCap w (l.length + k) cap 5 - (l.length + k)) := ⟨_, rfl⟩
     have hge := grownCap_ge w (l.length + k) cap 5
     have hcm2 : grownCap w (l.length + k) cap 5 ≤ maxLen := grownCap_le_maxLen w _ _ _ (by unfold maxLen; omega)
     have hNl : N.toList = u8s l ++ (news ++ (Builtin.zeroCells (Value.int .u8 0).cells (grownCap w (l.length + k) cap 5 - (l.length + k))).toList) := by
       rw [hN]; simp only [Array.toList_append, hzc, List.append_assoc]
     refine ⟨.slice (some ⟨w.heap.size, 0, none⟩) (l.length + k) (grownCap w (l.length + k) cap 5), w.drew.alloc (.cells N 5), ?_, ?_, ⟨rfl, rfl, rfl, by simp, fun j hj _ => Below.heap_alloc w.drew _ j hj⟩⟩
     · rw [hN]
       simp [Builtin.append_, run_underlying ht, run_underlying htn, sizeOf, typeInfo, zeroValue, hi, hz, hs1, asInt, asIntOf, hw, hneg, h48i, hk0, hroom, h63', h48', Question.forced, hfo, newRow, grownCap]
     · unfold Owns
       rw [hxs, hlen2]
       refine ⟨by rw [List.length_append, u8s_length, hnl]; omega, .inr ⟨w.heap.size, _, N, rfl, hbase, heap_alloc_new w.drew _, hge, hcm2, ?_, ?_⟩⟩
       · have := congrArg List.length hNl
         simp only [Array.length_toList, List.length_append, u8s_length, hnl, size_zeroCells] at this
         rw [this]
         simp [Value.cells]
         omega
       · rw [hNl, ← List.append_assoc]
         have e : (u8s l ++ news).length = l.length + k := by rw [List.length_append, u8s_length, hnl]
         simp only [Nat.mul_one]
         rw [← e]
         exact List.take_left
set_option maxHeartbeats 16000000 in
set_option maxRecDepth 100000 in
theorem ref512_any (v : Value) (l : List UInt8) (w : World) (hv : Bs w v l) (hlen : l.length < 2 ^ 30) :
   Calls Tryz.prog 29 #[v] w fun e w' => ∃ v', e = .returned v' ∧ Bs w' v' (k512.sum l) ∧ Below w.heap.size w w' := by
 obtain ⟨a, n, cap, rfl, hn, hc1, hc2, hB0⟩ := hv.shape
 have HV := Lib.hid hB0
 have HN := Lib.hid hn
 have hn30 : n < 2 ^ 30 := by omega
 clear hv hB0 hn
 go_enter Tryz.func29, Tryz.ntmps29
 go_wp2_with (first
   | (go_at_call 70; refine (refRounds_any _).mono ?_; rintro e w1 ⟨rfl, hb1⟩
      have hR := rowIs_arr w1 80 (fun _ => .int .u64 0) 104
      have hb := hb1.alloc hb1.size (.cells (arrOf 80 fun _ => .int .u64 0) 104)
      have hsz1 := hb1.size
      clear hb1)
   | refine wpList_alloc_arr rfl 104 rfl (arrOf 80 fun _ => .int .u64 0) zero80 ?_
   | (refine wpList_store_arr rfl 104 (.tmp 3) (.tmp 21) rfl 80 arr80 hR rfl rfl (by omega) (fun _ _ => rfl) ?_; intro w2 hr2 hg2 hs2
      replace hb := hb.grown hg2 hb.size (by intro k hk; cases hk; exact hsz1)
      replace hR := hr2.congr (g := w64 K64) (fun i hi => by unfold putN; rw [if_pos (by omega)]; rfl)
      clear hr2 hg2 hs2)
   | (go_at_call 71; refine (refStart_any _).mono ?_; rintro e w3 ⟨rfl, hb3⟩
      have hlt1 := hR.lt
      replace hR := (hR.of_block (hb3.block _ hR.lt)).alloc (.cells (arrOf 8 fun _ => .int .u64 0) 83)
      replace hb := hb.trans (hb3.mono hb.size)
      have hsz3 := hb.size
      replace hb := hb.alloc hb.size (.cells (arrOf 8 fun _ => .int .u64 0) 83)
      have hF := rowIs_arr w3 8 (fun _ => .int .u64 0) 83
      have hne41 : w3.heap.size ≠ w1.heap.size := by have := hb3.size; omega
      clear hb3)
   | refine wpList_alloc_arr rfl 83 rfl (arrOf 8 fun _ => .int .u64 0) zero8_64 ?_
   | (refine wpList_store_arr rfl 83 (.tmp 4) (.tmp 22) rfl 8 arr8_64 hF rfl rfl (by omega) (fun _ _ => rfl) ?_; intro wr hr4 hg4 hs4
      replace hR := hR.of_block (hg4.block _ hR.lt (fun e => hne41 (Option.some.inj e).symm))
      replace hb := (hb.grown hg4 hb.size (by intro k hk; cases hk; exact hsz3))
      have hH : wr.rowIs w3.heap.size 83 8 (w64 k512.first.at) := hr4.congr (fun i hi => by
        unfold putN
        rw [if_pos (by omega), Nat.sub_zero]
        show Value.int .u64 ((I64 i).toNat : Int) = Value.int .u64 (((S8.of I64).at i).toNat : Int)
        rw [S8.at_of _ _ hi])
      have hO := Owns.empty wr
      have hb8 : Below wr.heap.size wr (wr.alloc (.cells #[] 5)) := (Below.refl _ _).alloc (Nat.le_refl _) _
      have HB := Lib.hid ((HV.out.below hb (Nat.le_refl _)).below hb8 (Nat.le_refl _))
      clear hr4 hg4 hs4)
   | (refine wpList_app rfl (.tmp 23) (.tmp 24) rfl wr.heap.size _ _ [] l hO HB.out rfl rfl (by simp; omega) (by simp) ?_; intro v5 w5 hO5 hg5
      have hb5 := hb8.grown hg5 (by simp) (Owns.block hO)
      have hB1 := Bs.one w5 128
      clear hO HB hg5)
   | (refine wpList_app rfl (.tmp 25) (.tmp 26) rfl wr.heap.size _ _ ([] ++ l) [128] (Owns.alloc hO5 _) hB1 rfl rfl (by simp; omega) (by have := hb5.size; simp; omega) ?_; intro v6 w6 hO6 hg6
      have hb6 := (hb5.alloc hb5.size (.cells #[.int .u8 ((128 : UInt8).toNat : Int)] 5)).grown hg6 (by have := hb5.size; simp; omega) (Owns.block hO5)
      clear hO5 hg6 hB1))
 generalize w1.heap.size = rb at *
 generalize w3.heap.size = hb' at *
 have hR8 := hR
 have hH8 := hH
 have hbw8 := hb
 generalize hb8e : wr.heap.size = b8 at *
 have HN8 := Lib.hid hb8e
 clear hb8e hb8 hb5 hR hH hb
 have hbt : Below b8 wr w6 := hb6
 go_loopw [5] (fun m wq => ∃ z : Nat, z ≤ endRoom n 128 - 17 ∧ Owns wq b8 m ([] ++ l ++ [128] ++ List.replicate z 0) ∧ Below b8 wr wq) (fun m _ => n + 1 + (endRoom n 128 - 17) - lenOf m)
 case atStart => exact ⟨0, Nat.zero_le _, by simpa using hO6, hbt⟩
 case round =>
   clear hO6 hb6 hbt
   obtain ⟨z, hz, hO, hbq⟩ := hrel
   have hml : ([] ++ l ++ [128] ++ List.replicate z (0 : UInt8)).length = n + 1 + z := by simp; have := HN.out; omega
   obtain ⟨am, cm, hme⟩ := hO.shape
   rw [hml] at hme
   subst hme
   have hroom := room128 n z hz
   have hr2 := (endRoom_ge n 128 (by omega))
   have hB := Bs.one wr 0
   have hba := hbq.alloc (by have := hbq.size; have := HN8.out; omega) (.cells #[.int .u8 ((0 : UInt8).toNat : Int)] 5)
   have hsq : b8 ≤ wr.heap.size := by have := hbq.size; have := HN8.out; omega
   by_cases hzz : z = endRoom n 128 - 17
   · have hI : ((n : Int) + 1 + (z : Int)) % 128 = 112 := by
       have := hroom.2 hzz
       omega
     have HZ := Lib.hid hzz
     clear hzz hroom hB hba
     have hO1 := hO
     have hmn : IntKind.u64.wrap ((n : Int) * 8) = ((8 * n : Nat) : Int) := by rw [IntWalk.u64_in _ (by omega)]; omega
     obtain ⟨vz, wz, hrz, hOz, hgz⟩ := run_app_zeros hO1 (by rw [hml]; omega) 8 (by omega) (by rw [hml]; omega) hsq 22
     have hrz8 : (Builtin.append_ #[22, 3] 22 #[.slice am (n + 1 + z) cm, .int .i64 8]).run Tryz.prog wr = .ok vz wz := hrz
     clear hrz
     have hbz := hbq.grown hgz hsq (Owns.block hO1)
     have hsz := Nat.le_trans hsq hgz.size
     have hmlz : (([] ++ l ++ [128] ++ List.replicate z 0) ++ List.replicate 8 (0 : UInt8)).length = n + 1 + z + 8 := by rw [List.length_append, hml, List.length_replicate]
     have hzz8 : ([] ++ l ++ [128] ++ List.replicate z 0) ++ List.replicate 8 (0 : UInt8) = [] ++ l ++ [128] ++ List.replicate (z + 8) 0 := by rw [List.append_assoc, List.replicate_append_replicate]
     clear hO1 hO
     go_wp2_with (first
       | (refine Lib.wpList_append_run _ rfl (.tmp 35) (.const (.int .i64 8)) 22 3 rfl (.slice am (n + 1 + z) cm) (.int .i64 8) rfl rfl vz wz hrz8 ?_)
       | (go_at_call 72; refine (refBig_any (8 * n) 8 _ (by omega) (by omega) (by omega)).mono ?_; rintro e w2 ⟨v2, rfl, hB2, hb2⟩
          have hO2 := hOz.below hb2
          have hbq2 := hbz.trans (hb2.mono hsz)
          have hsq2 := Nat.le_trans hsz hb2.size
          clear hb2)
       | (refine wpList_app rfl (.tmp 36) (.tmp 41) rfl b8 _ _ _ _ hO2 hB2 rfl rfl (by rw [hmlz, bigB_length]; omega) hsq2 ?_; intro v3 w3 hO3 hg3))
     have hbw : Below w.heap.size w w3 := (hbw8.trans (hbq2.mono (by have := HN8.out; have := hbw8.size; omega))).grown hg3 (by have := hbw8.size; have := HN8.out; omega) (fun r hr => by have := Owns.block hO2 r hr; have := hbw8.size; have := HN8.out; omega)
     have hb83 : Below b8 _ w3 := hbq2.grown hg3 hsq2 (Owns.block hO2)
     have hR3 := hR8.of_block (hb83.block rb (by have := hR8.lt; have := HN8.out; omega))
     have hH3 := hH8.of_block (hb83.block hb' (by have := hH8.lt; have := HN8.out; omega))
     have hM : ([] ++ l ++ [128] ++ List.replicate z 0) ++ List.replicate 8 0 ++ bigB (8 * n) 8 = k512.pad l := by
       have e1 := HZ.out
       have e2 := HN.out
       subst e2
       have e3 := (endRoom_ge l.length 128 (by omega)).1
       have e4 : 17 ≤ endRoom l.length 128 := by unfold endRoom; split <;> omega
       rw [hzz8, e1, show endRoom l.length 128 - 17 + 8 = endRoom l.length 128 - 9 by omega]
       show _ = l ++ ([128] ++ List.replicate (endRoom l.length 128 - 9) 0 ++ bigB (8 * l.length) 8)
       simp
     rw [show ((8 : Int).toNat) = 8 from rfl, hM] at hO3
     obtain ⟨a3, c3, rfl⟩ := hO3.shape
     have hA3 : Away (.slice a3 (k512.pad l).length c3) hb' := hO3.away (by have := hH8.lt; have := HN8.out; omega)
     have hB3 := Lib.hid hO3.bs
     have hlt3 : hb' < w3.heap.size := hH3.lt
     have hTQ := pad_blocks k512 l (by decide) (.inr rfl)
     have hTmax : (k512.pad l).length < 2 ^ 31 := by
       show (l ++ endOf l.length 128).length < 2 ^ 31
       rw [List.length_append, endOf_length _ _ (by omega)]
       have := (endRoom_ge l.length 128 (by omega)).2
       have := HN.out
       omega
     generalize hMe : k512.pad l = M at *
     have HM := Lib.hid hMe
     clear hMe hO3 hg3 hO2 hB2 hbq2 hb83 hOz hbz hgz hrz8 hsz hsq2 hmlz hzz8 hbq hR8 hH8 hbw8 hml hM HZ hI hz hmn
     obtain ⟨Q, hQ⟩ : ∃ Q, Q = M.length / k512.block := ⟨_, rfl⟩
     rw [← hQ] at hTQ
     replace hTQ : M.length = 128 * Q := hTQ
     generalize hTe : M.length = T at *
     have HT := Lib.hid hTe
     have HQ := Lib.hid hQ
     have HTQ := Lib.hid hTQ
     clear hTe hQ hTQ
     go_loopw [6] (fun p wq => ∃ (j q : Nat), j ≤ Q ∧ Hid (q = 128 * j) ∧ p = .int .i64 (q : Int) ∧ wq.rowIs hb' 83 8 (w64 (k512.state M j).at) ∧ w3.grownBy wq (some hb')) (fun p _ => T - (intOf p).toNat)
     case atStart => exact ⟨0, 0, Nat.zero_le _, rfl, rfl, hH3, grownBy_refl _ _⟩
     case round =>
       obtain ⟨j, q, hj, Hq, rfl, hH, hg⟩ := hrel
       have hqT : q ≤ T := by have := Hq.out; have := HTQ.out; omega
       by_cases hlt : j < Q
       · have hq64 : q + 128 ≤ T := by have := Hq.out; have := HTQ.out; omega
         have hqI : (q : Int) < (T : Int) := by omega
         have hW0 := rowIs_arr wr 80 (fun _ => .int .u64 0) 104
         have hgA := gb_alloc hg (.cells (arrOf 80 fun _ => .int .u64 0) 104)
         have hHA := hH.alloc (.cells (arrOf 80 fun _ => .int .u64 0) 104)
         have hwb : w3.heap.size ≤ wr.heap.size := hg.size
         have hwn : hb' ≠ wr.heap.size := by have := hH.lt; omega
         obtain ⟨W, hW⟩ : ∃ W, W = k512.sched (k512.word ((M.drop (128 * j)).take 128)) := ⟨_, rfl⟩
         have hW16 : ∀ t, t < 16 → W t = BitVec.ofNat 64 (numB ((M.drop (q + 8 * t)).take 8) 8) := fun t ht => by
           rw [hW, Kind.sched_low _ _ _ ht, numB_cut M q (8 * t) 8 128 (by omega), Hq.out]
           rfl
         have hWs : ∀ i, 16 ≤ i → W i = sig (W (i - 2)) 19 61 6 + W (i - 7) + sig (W (i - 15)) 1 8 7 + W (i - 16) := fun i hi => by
           rw [hW, Kind.sched_high _ _ _ hi]
           rfl
         have HWd := Lib.hid hW
         have HW16 := Lib.hid hW16
         have HWs := Lib.hid hWs
         clear hW hW16 hWs
         go_wp2_with (refine wpList_alloc_arr rfl 104 rfl (arrOf 80 fun _ => .int .u64 0) zeroR_64 ?_)
         clear hH hg
         generalize wr.heap.size = wb at *
         refine ref512_L4 w3 hb' wb T c3 q a3 M W (k512.state M j).at hTmax hq64 hB3 hA3 hwb hwn HW16 hW0 hHA hgA ?_
         intros
         rename_i w4 h4
         obtain ⟨hW4, hH4, hg4⟩ := h4
         clear hW0 hHA hgA
         go_wp2
         refine ref512_L5 w3 hb' wb W (k512.state M j).at hwb hwn HWs hW4 hH4 hg4 ?_
         intros
         rename_i w5 h5
         obtain ⟨hW5, hH5, hg5⟩ := h5
         clear hW4 hH4 hg4
         have hRq := gb_rowIs hR3 hg5 (Ne.symm hne41)
         have hV0 := rowIs_arr w5 8 (fun _ => .int .u64 0) 83
         have hHA := hH5.alloc (.cells (arrOf 8 fun _ => .int .u64 0) 83)
         have hWA := hW5.alloc (.cells (arrOf 8 fun _ => .int .u64 0) 83)
         have hRA := hRq.alloc (.cells (arrOf 8 fun _ => .int .u64 0) 83)
         have hgA := gb_alloc hg5 (.cells (arrOf 8 fun _ => .int .u64 0) 83)
         have hvb : w3.heap.size ≤ w5.heap.size := hg5.size
         have hvn : hb' ≠ w5.heap.size := by have := hH5.lt; omega
         have hvw : wb ≠ w5.heap.size := by have := hW5.lt; omega
         have hvr : rb ≠ w5.heap.size := by have := hRq.lt; omega
         obtain ⟨s0, hs0⟩ : ∃ s0, s0 = k512.state M j := ⟨_, rfl⟩
         rw [← hs0] at hH5 hHA
         have HS0 := Lib.hid hs0
         clear hs0
         go_wp2_with (first
           | (refine wpList_load_arr rfl 83 (.tmp 4) rfl 8 arr8_64 hH5 rfl (by omega) ?_; simp only [Nat.zero_add])
           | refine wpList_alloc_arr rfl 83 rfl (arrOf 8 fun _ => .int .u64 0) zero8_64 ?_
           | (refine wpList_store_arr rfl 83 (.tmp 12) (.tmp 120) rfl 8 arr8_64 hV0 rfl rfl (by omega) (fun _ _ => rfl) ?_; intro w6 hV6 hg6 hs6
              replace hV6 := hV6.congr (g := w64 s0.at) (fun i hi => by unfold putN; rw [if_pos (by omega)]; rfl)
              replace hHA := gb_rowIs hHA hg6 hvn
              replace hWA := gb_rowIs hWA hg6 hvw
              replace hRA := gb_rowIs hRA hg6 hvr
              replace hgA := gb_row hgA hg6 hvb
              clear hg6 hs6))
         clear hV0 hH5 hg5 hW5 hRq
         generalize w5.heap.size = vb at *
         refine ref512_L6 w3 rb hb' wb vb W s0 hvb hvn hvw hvr hV6 hWA hRA hHA hgA ?_
         intros
         rename_i w7 h7
         obtain ⟨hV7, hW7, hR7, hH7, hg7⟩ := h7
         clear hV6 hWA hRA hHA hgA
         go_wp2
         refine ref512_L7 w3 hb' vb s0 (k512.rnd W s0 80) hvn hV7 hH7 hg7 ?_
         intros
         rename_i w8 h8
         obtain ⟨hH8, hg8⟩ := h8
         clear hV7 hW7 hR7 hH7 hg7
         have hst : k512.state M (j + 1) = S8.add s0 (k512.rnd W s0 80) := by
           rw [HWd.out, HS0.out]
           rfl
         have HST := Lib.hid hst
         clear hst
         go_wp2
         go_roundw
         case rel => exact ⟨j + 1, q + 128, by omega, by have := Hq.out; show _ = _; omega, by go_num, by rw [HST.out]; exact hH8, hg8⟩
         case measure => simp [intOf]; omega
       · obtain rfl : j = Q := by omega
         have hqI : ¬ (q : Int) < (T : Int) := by have := Hq.out; have := HTQ.out; omega
         have hout : k512.out (k512.state M j) 8 = k512.sum l := by
           have e1 := HQ.out
           have e2 := HT.out
           rw [e1, ← e2, ← HM.out]
           rfl
         have HO := Lib.hid hout
         have hbf : Below w.heap.size w wr := gb_below hbw hg hbw.size (by omega)
         clear hout
         obtain ⟨s0, hs0⟩ : ∃ s0, s0 = k512.state M j := ⟨_, rfl⟩
         rw [← hs0] at hH HO
         clear hs0
         go_wp2
         go_loopw [19, 20] (fun out i wq => ∃ t : Nat, t ≤ 8 ∧ i = .int .i64 t ∧ Owns wq wr.heap.size out (k512.out s0 t) ∧ wq.rowIs hb' 83 8 (w64 s0.at) ∧ Below wr.heap.size wr wq) (fun _ i _ => 8 - (intOf i).toNat)
         case atStart => exact ⟨0, Nat.zero_le _, rfl, Owns.nil _ _, hH, Below.refl _ _⟩
         case round =>
           have hHl := hH.lt
           clear hH
           obtain ⟨t, ht, rfl, hown, hH, hbel⟩ := hrel
           by_cases hlt8 : t < 8
           · have hc : wr.cell? ⟨hb', t, none⟩ = some (.int .u64 ((s0.at t).toNat : Int)) := hH.cell hlt8
             have hol : (k512.out s0 t).length = 8 * t := out_length k512 s0 8 rfl t
             have hb8 : (t : Int) < 8 := by omega
             have hcv : IntKind.u64.wrap ((s0.at t).toNat : Int) = ((s0.at t).toNat : Int) := IntWalk.u64_in _ ⟨by omega, by have := u64_lt (s0.at t); omega⟩
             go_wp2_with (first
               | (go_at_call 72; refine (refBig_any (s0.at t).toNat 8 _ (by have := u64_lt (s0.at t); omega) (by omega) (by omega)).mono ?_; rintro e w5 ⟨v5, rfl, hB5, hb5⟩
                  have hown5 := hown.below hb5
                  have hbel5 := hbel.trans (hb5.mono hbel.size)
                  have hH5 := hH.of_block (hb5.block _ hH.lt)
                  clear hb5)
               | (refine wpList_app rfl (.tmp 220) (.tmp 224) rfl _ _ _ (k512.out s0 t) _ hown5 hB5 rfl rfl (by rw [hol, bigB_length]; omega) hbel5.size ?_; intro v6 w6 hown6 hgrow6))
             have hbel6 := hbel5.grown hgrow6 hbel5.size (Owns.block hown5)
             have hH6 : w6.rowIs hb' 83 8 (w64 s0.at) := hH5.of_block (hgrow6.block _ hH5.lt (fun e => by have := Owns.block hown5 hb' e.symm; omega))
             clear hown5 hgrow6 hB5 hH5
             go_wp2
             go_roundw
             case rel => exact ⟨t + 1, by omega, by go_num, hown6, hH6, hbel6⟩
             case measure => simp [intOf]; omega
           · obtain rfl : t = 8 := by omega
             go_wp2
             go_ret
             exact ⟨_, rfl, by rw [← HO.out]; exact hown.bs, hbf.trans (hbel.mono hbf.size)⟩
   · have hI : ¬ ((n : Int) + 1 + (z : Int)) % 128 = 112 := by
       intro h
       exact hzz (hroom.1 (by omega))
     clear hroom
     go_wp2_with (refine wpList_app rfl (.tmp 32) (.tmp 33) rfl b8 _ _ _ [0] (hO.alloc _) hB rfl rfl (by rw [hml]; simp; omega) (by simp; omega) ?_; intro v3 w3 hO3 hg3)
     have hb3 : Below b8 _ w3 := hba.grown hg3 (by simp; omega) (Owns.block hO)
     go_roundw
     case rel =>
       refine ⟨z + 1, by omega, ?_, hb3⟩
       rw [List.replicate_succ', ← List.append_assoc]
       exact hO3
     case measure =>
       obtain ⟨a3, c3, rfl⟩ := hO3.shape
       simp [lenOf]
       have := HN.out
       omega





set_option maxHeartbeats 800000 in
theorem refCat_any (v : Value) (L : List (List UInt8)) (w : World) (hv : Bss w v L) (hlen : L.flatten.length ≤ 2147483647) :
   Calls Tryz.prog 35 #[v] w fun e w' => ∃ v', e = .returned v' ∧ Owns w' w.heap.size v' L.flatten ∧ Below w.heap.size w w' := by
 have HV := Lib.hid hv
 obtain ⟨a, cap, rfl, h1, h2, h3, h4⟩ := hv
 clear h3 h4
 unfold maxLen at h2
 go_enter Tryz.func35, Tryz.ntmps35
 go_wp2
 generalize hn : L.flatten.length = n at *
 have HN := Lib.hid hn
 clear hn
 go_loopw [3, 4] (fun v i wr => ∃ j : Nat, j ≤ L.length ∧ i = .int .i64 j ∧ Owns wr w.heap.size v (catTo L j) ∧ Below w.heap.size w wr) (fun _ i _ => L.length - (intOf i).toNat)
 case atStart => exact ⟨0, Nat.zero_le _, rfl, Owns.nil _ _, Below.refl _ _⟩
 case round =>
   obtain ⟨j, hj, rfl, hown, hbel⟩ := hrel
   by_cases hlt : j < L.length
   · have hsum : (catTo L j).length + L[j].length ≤ n := by
       have := catTo_le L (j + 1)
       rw [catTo_succ L j hlt, List.length_append] at this
       have := HN.out
       omega
     obtain ⟨b, off, cap', he, _, _, hbl, hc⟩ := HV.out.open_cons (by omega)
     cases he
     obtain ⟨u, hcj, hu⟩ := hc j hlt
     clear hc
     have hcr : wr.cell? ⟨b, off + j, none⟩ = some u := (hbel.cell (by exact hbl)).trans hcj
     have hur : Bs wr u L[j] := hu.below hbel (Nat.le_refl _)
     have HU := Lib.hid hur
     obtain ⟨au, cu, rfl, _, _, _, _⟩ := hu
     clear hur
     go_wp2_with (refine wpList_app rfl _ _ rfl w.heap.size _ _ (catTo L j) L[j] hown HU.out rfl rfl (by omega) (by have := hbel.size; omega) ?_; intro v2 w2 hown2 hgrow2)
     have hown3 : Owns w2 w.heap.size v2 (catTo L (j + 1)) := by rw [catTo_succ L j hlt]; exact hown2
     have hbel3 : Below w.heap.size w w2 := hbel.grown hgrow2 hbel.size (Owns.block hown)
     clear hown2 hgrow2 hown hbel hcr HU hsum
     go_wp2
     go_roundw
     case rel => exact ⟨j + 1, by omega, by go_num, hown3, hbel3⟩
     case measure => simp [intOf]; omega
   · obtain rfl : j = L.length := by omega
     go_wp2
     go_ret
     exact ⟨_, rfl, by rw [← catTo_all L L.length (Nat.le_refl _)]; exact hown, hbel⟩
theorem refWideN_any (v : Value) (l : List UInt8) (w : World) (hv : Bs w v l) (N : Nat) (h : numL l 64 % ordL = N) : Calls Tryz.prog 32 #[v] w fun e w' => e = .returned (.agg (arrOf 32 (bF 32 N))) ∧ Below w.heap.size w w' := by
 rw [← h]
 exact refWide_any v l w hv
end Go.Proofs.YtonhpmaiagbheaaGreat
