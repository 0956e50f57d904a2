/- Texts joined: what they are for stands ahead of each. -/
import Derived.Test.YtonhpmaiagbheaaGreatMM4
import Derived.ArgAppend
import Derived.Laws.StandIn
import Derived.BigQuiet
import Derived.Deep.QuietTactic
import Derived.WalkSmall
import Derived.Lib.SlBytesConst
import Derived.StillTailTactics
import Derived.Lib.AppendZeros
import Derived.BigRegion
import Derived.ProofKit
import Derived.OpenShut
import Derived.ChangeOld
import Derived.Deep.Matrix
set_option linter.unusedSimpArgs false
set_option linter.unusedVariables false

/- The program's signatures: rows of rows joined, number, clamped. -/
namespace Go.Proofs.YtonhpmaiagbheaaGreat
open Go.RowKit Go.Deep
set_option linter.unusedSimpArgs false
set_option linter.unusedVariables false

theorem infoRow : (Tryz.prog.info? 22).map (fun i => (i.zero, i.size, i.bytes)) = some (some (.slice none 0 0), 1, 24) := by kernel_rfl
theorem Bss.cellsU {w : World} {x : Addr} {L : List (List UInt8)} (h : ∀ i (h : i < L.length), ∃ u, w.cell? (x.add i) = some u ∧ Bs w u L[i]) :
    ∃ us : List Value, us.length = L.length ∧ (∀ j u, us[j]? = some u → w.cell? (x.add j) = some u) ∧ ∀ j (hj : j < L.length), ∃ u, us[j]? = some u ∧ Bs w u L[j] := by
  refine ⟨(List.range L.length).map fun i => (w.cell? (x.add i)).getD undef, by simp, fun j u hj => ?_, fun j hj => ?_⟩
  · have hl : j < L.length := by have := (List.getElem?_eq_some_iff.1 hj).1; simpa using this
    obtain ⟨u', h1, _⟩ := h j hl
    rw [List.getElem?_map, List.getElem?_range hl, Option.map_some, h1, Option.getD_some] at hj
    rw [h1, hj]
  · obtain ⟨u', h1, h2⟩ := h j hj
    refine ⟨u', ?_, h2⟩
    rw [List.getElem?_map, List.getElem?_range hj, Option.map_some, h1, Option.getD_some]
set_option maxRecDepth 10000 in
theorem exec_appRows {w : World} (ρ : Operand → Value) (s x : Operand) (t : TypeId) (ad : Addr) (n : Nat) (v0 : Value) (A L : List (List UInt8)) (hA : Bss w (.slice (some ad) n n) A) (hL : Bss w v0 L) (hs : ρ s = .slice (some ad) n n) (hx : ρ x = v0) (hlen : A.length + L.length ≤ 2147483647) :
    ∃ v' w', (execOp ρ (mkOp (.call { callee := .builtin .append, args := #[s, x], argTypes := #[23, 23] }) t)).run Tryz.prog w = .ok (.value v') w' ∧ Bss w' v' (A ++ L) ∧ Below w.heap.size w w' := by
  obtain ⟨i0, hi, hz0, hz1, hz2⟩ := info_parts infoRow
  obtain ⟨a2, cap2, rfl, g1, g2, g3, g4⟩ := hL
  have hA' := hA
  obtain ⟨a1, cap1, he, k1, k2, k3, k4⟩ := hA'
  injection he with he1 he2 he3
  subst he1 he2 he3
  by_cases hL0 : L.length = 0
  · obtain rfl : L = [] := List.eq_nil_of_length_eq_zero hL0
    refine ⟨_, w, ?_, by rw [List.append_nil]; exact hA, Below.refl _ _⟩
    have hrun : (Builtin.append_ #[23, 23] t #[.slice (some ad) A.length A.length, .slice a2 0 cap2]).run Tryz.prog w = .ok (.slice (some ad) A.length A.length) w := by
      cases a2 <;> simp [Builtin.append_, run_underlying Tryz.underlying23, sizeOf, typeInfo, hi, Builtin.lenOf, Builtin.firstCells, storeCells, loadCells, loadCellsFrom]
    simp [execOp, mkOp, resolve, invoke, builtin, hs, hx, hrun, Result.andThen]
  · cases a2 with
    | none => exact absurd (by have := g3 rfl; omega) hL0
    | some a2 =>
      obtain ⟨us, u1, u2, u3⟩ := Bss.cellsU (fun i h => (k4 _ rfl i h).2)
      obtain ⟨vs, v1, v2, v3⟩ := Bss.cellsU (fun i h => (g4 _ rfl i h).2)
      obtain ⟨v', w', hrun, r1, r2⟩ := run_append_arg_grows (P := Tryz.prog) w 23 t 22 i0 (.slice none 0 0) 1 24 Tryz.underlying23 hi hz0 hz1 hz2 rfl (by decide) ad A.length A.length us (by omega) u2 a2 L.length cap2 vs (by omega) v2 (by omega) (by unfold maxLen; omega) (by omega)
      refine ⟨v', w', ?_, ?_, ⟨r2.os, r2.tape, r2.output, r2.size, fun k hk => r2.block k hk (by simp)⟩⟩
      · simp [execOp, mkOp, resolve, invoke, builtin, hs, hx, hrun, Result.andThen]
      · have hb : Below w.heap.size w w' := ⟨r2.os, r2.tape, r2.output, r2.size, fun k hk => r2.block k hk (by simp)⟩
        rcases r1.2 with ⟨_, hn⟩ | ⟨g, cap, cur, rfl, hbg, hg, hnc, hcm, hcs, htake⟩
        · omega
        · refine ⟨some ⟨g, 0, none⟩, cap, by rw [List.length_append], by rw [List.length_append]; exact hnc, hcm, fun h => (by cases h), fun x hx i hi => ?_⟩
          cases hx
          have hil : i < A.length + L.length := by rw [← List.length_append]; exact hi
          refine ⟨(Array.getElem?_eq_some_iff.1 hg).1, ?_⟩
          rw [Addr.add_lit, Nat.zero_add]
          have hc := World.ownsRow.cellAt r1 i (by omega)
          rw [hc]
          by_cases h : i < A.length
          · obtain ⟨u, e1, e2⟩ := u3 i h
            refine ⟨u, by rw [List.getElem?_append_left (by omega)]; exact e1, ?_⟩
            rw [List.getElem_append_left h]
            exact e2.below hb (Nat.le_refl _)
          · obtain ⟨u, e1, e2⟩ := v3 (i - A.length) (by omega)
            refine ⟨u, by rw [List.getElem?_append_right (by omega), u1]; exact e1, ?_⟩
            rw [List.getElem_append_right (by omega)]
            exact e2.below hb (Nat.le_refl _)
theorem wpList_appRows {ops : Array Oper} {rest : List Oper} {o : Oper} {a : Act} {w : World} {Q : Exit → Act → World → Prop} (hgd : o.guard = none) (s x : Operand) (ho : o.op = .call { callee := .builtin .append, args := #[s, x], argTypes := #[23, 23] })
    {ad : Addr} {n : Nat} {v0 : Value} {A L : List (List UInt8)} (hA : Bss w (.slice (some ad) n n) A) (hL : Bss w v0 L) (hlen : A.length + L.length ≤ 2147483647) (hs : a.eval s = .slice (some ad) n n) (hx : a.eval x = v0)
    (h : ∀ v w', Bss w' v (A ++ L) → Below w.heap.size w w' → wpList Tryz.prog ops Q rest (a.put o.dst v) w') : wpList Tryz.prog ops Q (o :: rest) a w := by
  obtain ⟨v', w', hr, h1, h2⟩ := exec_appRows a.eval s x o.type ad n v0 A L hA hL hs hx hlen
  exact wpList_plain hgd fun _ hK => by
    unfold Oper.wp
    rw [exec_mkOp, ho, hr]
    exact hK _ _ (h _ _ h1 h2)
theorem wpList_rowsF1 {ops : Array Oper} {rest : List Oper} {o : Oper} {a : Act} {w : World} {Q : Exit → Act → World → Prop} (hgd : o.guard = none) (x : Operand) (ho : o.op = .buildSlice 23 1 #[(0, x)]) {v1 : Value} {l1 : List UInt8} (h1 : Bs w v1 l1) (hx : a.eval x = v1)
    (h : ∀ ad w', Bss w' (.slice (some ad) 1 1) [l1] → Below w.heap.size w w' → wpList Tryz.prog ops Q rest (a.put o.dst (.slice (some ad) 1 1)) w') : wpList Tryz.prog ops Q (o :: rest) a w := by
  have hr := exec_rowsP1 a.eval x o.type w h1 hx
  exact wpList_plain hgd fun _ hK => by
    unfold Oper.wp
    rw [exec_mkOp, ho, hr]
    exact hK _ _ (h _ _ (Bss.one h1 rfl) ((Below.refl _ _).alloc (Nat.le_refl _) _))
theorem wpList_rowsF2 {ops : Array Oper} {rest : List Oper} {o : Oper} {a : Act} {w : World} {Q : Exit → Act → World → Prop} (hgd : o.guard = none) (x y : Operand) (ho : o.op = .buildSlice 23 2 #[(0, x), (1, y)]) {v1 v2 : Value} {l1 l2 : List UInt8} (h1 : Bs w v1 l1) (h2 : Bs w v2 l2) (hx : a.eval x = v1) (hy : a.eval y = v2)
    (h : ∀ ad w', Bss w' (.slice (some ad) 2 2) [l1, l2] → Below w.heap.size w w' → wpList Tryz.prog ops Q rest (a.put o.dst (.slice (some ad) 2 2)) w') : wpList Tryz.prog ops Q (o :: rest) a w := by
  have hr := exec_rowsP2 a.eval x y o.type w h1 h2 hx hy
  exact wpList_plain hgd fun _ hK => by
    unfold Oper.wp
    rw [exec_mkOp, ho, hr]
    exact hK _ _ (h _ _ (Bss.two h1 h2 rfl) ((Below.refl _ _).alloc (Nat.le_refl _) _))
set_option maxHeartbeats 4000000 in
set_option maxRecDepth 10000 in
theorem number_to (v0 : Value) (ad : Addr) (n : Nat) (A L : List (List UInt8)) (V : Nat) (w : World) (hL : Bss w v0 L) (hA : Bss w (.slice (some ad) n n) A) (hle : A.length + L.length ≤ 2147483647) (hll : (A ++ L).flatten.length < 2 ^ 59) (hN : numL (k512.sum (A ++ L).flatten) 64 % ordL = V) :
    Calls Tryz.prog 25 #[v0, .slice (some ad) n n] w fun e w' => e = .returned (.agg (arrOf 4 (ewF V))) ∧ Below w.heap.size w w' := by
  have HLE := Lib.hid hle
  have HLL := Lib.hid hll
  have HNV := Lib.hid hN
  have HA := Lib.hid hA
  clear hle hll hN hA
  have Bw0 := Below.refl w.heap.size w
  have HGS : Hid (∀ wq : World, Below w.heap.size w wq → w.heap.size ≤ wq.heap.size) := Lib.hid fun wq h => h.size
  go_enter Tryz.func25, Tryz.ntmps25
  go_wp2_with (first
    | (have hgo := Bw0; clear hgo
       refine wpList_alloc_row rfl 48 rfl 4 (u64f fun _ => 0) zeroS ?_
       intro b_t4 w1 lk r_t4 kk
       have l_t4 := zrl HGS Bw0 lk
       have Bw1 := zbt HGS Bw0 kk
       clear Bw0 kk lk)
    | (have hgo := Bw1; clear hgo
       refine wpList_appRows rfl (.tmp 5) (.tmp 6) rfl (HA.out.below Bw1 (Nat.le_refl _)) (hL.below Bw1 (Nat.le_refl _)) HLE.out rfl rfl ?_
       intro v_r7 w2 F_r7 kk
       replace r_t4 := zrb r_t4 kk
       have Bw2 := zbt HGS Bw1 kk
       clear Bw1 kk)
    | (have hgo := Bw2; clear hgo
       go_at_call 19
       refine (sum512_any _ _ _ F_r7 HLL.out).mono ?_
       rintro e w3 ⟨v_s, rfl, f_s, kk⟩
       replace r_t4 := zrb r_t4 kk
       have Bw3 := zbt HGS Bw2 kk
       clear Bw2 kk
       clear F_r7)
    | (have hgo := Bw3; clear hgo
       go_at_call 55
       refine (sWide_to _ _ _ f_s V HNV.out).mono ?_
       rintro e w4 ⟨rfl, kk⟩
       replace r_t4 := zrb r_t4 kk
       replace f_s := zfb f_s kk
       have Bw4 := zbt HGS Bw3 kk
       clear Bw3 kk)
    | (have hgo := Bw4; clear hgo
       refine wpList_store_as rfl 48 (.tmp 4) (.tmp 9) rfl 4 (ewF V) arrS r_t4 rfl rfl (by omega) (fun _ _ => rfl) (fun i hi => putN_whole hi) ?_
       intro w5 q gk
       replace r_t4 := q
       have Bw5 := zbg HGS Bw4 gk l_t4
       clear f_s
       clear Bw4 gk q))
  exact ret_cell_as _ rfl arrS r_t4 rfl (by omega) (fun _ _ => rfl) rfl ⟨rfl, Bw5⟩
theorem clampL_eq (l : List UInt8) (h : l.length = 32) (x y : Nat) (hx : x = (l.getD 0 0).toNat) (hy : y = (l.getD 31 0).toNat) : (l.set 0 (UInt8.ofNat (x / 8 * 8))).set 31 (UInt8.ofNat (y % 64 + 64)) = litB (clampN l) 32 := by
  refine List.ext_getElem (by simp [litB_length, h]) fun i h1 h2 => ?_
  have hi : i < 32 := by simpa [litB_length] using h2
  have e : (litB (clampN l) 32)[i]'h2 = UInt8.ofNat (byteN (clampN l) i) := by
    rw [litB_at]
    unfold byteN
    apply UInt8.toNat_inj.1
    rw [UInt8.toNat_ofNat', UInt8.toNat_ofNat', Nat.mod_mod]
  rw [e, List.getElem_set]
  by_cases h31 : 31 = i
  · subst h31
    rw [if_pos rfl, clamp_high, hy]
  · rw [if_neg h31, List.getElem_set]
    by_cases h0 : 0 = i
    · subst h0
      rw [if_pos rfl, clamp_low, hx]
    · rw [if_neg h0, clamp_mid l i (by omega) (by omega), List.getD_eq_getElem?_getD, List.getElem?_eq_getElem (by omega), Option.getD_some, UInt8.ofNat_toNat]
theorem andNot7E (x : Nat) (h : x < 256) : bits .andNot .u8 (x : Int) 7 = ((x / 8 * 8 : Nat) : Int) := by
  have g : ∀ q : Fin 256, bits .andNot .u8 ((q.val : Nat) : Int) 7 = ((q.val / 8 * 8 : Nat) : Int) := by decide +kernel
  exact g ⟨x, h⟩
theorem and127E (x : Nat) (h : x < 256) : bits .and .u8 (x : Int) 127 = ((x % 128 : Nat) : Int) := by
  have g : ∀ q : Fin 256, bits .and .u8 ((q.val : Nat) : Int) 127 = ((q.val % 128 : Nat) : Int) := by decide +kernel
  exact g ⟨x, h⟩
theorem or64E (x : Nat) (h : x < 256) : bits .or .u8 ((x % 128 : Nat) : Int) 64 = ((x % 64 + 64 : Nat) : Int) := by
  have g : ∀ q : Fin 256, bits .or .u8 ((q.val % 128 : Nat) : Int) 64 = ((q.val % 64 + 64 : Nat) : Int) := by decide +kernel
  exact g ⟨x, h⟩
set_option maxHeartbeats 4000000 in
set_option maxRecDepth 10000 in
theorem clamped_to (v0 : Value) (l0 : List UInt8) (V : Nat) (w : World) (h0 : Bs w v0 l0) (hl : l0.length = 32) (hN : numL (litB (clampN l0) 32) 64 % ordL = V) :
    Calls Tryz.prog 20 #[v0] w fun e w' => e = .returned (.agg (arrOf 4 (ewF V))) ∧ Below w.heap.size w w' := by
  have HL := Lib.hid hl
  have HNV := Lib.hid hN
  have HF_b0 := Lib.hid h0
  have f_b0 := h0
  obtain ⟨x, hx⟩ := nat_var ((l0.getD 0 0).toNat)
  obtain ⟨y, hy⟩ := nat_var ((l0.getD 31 0).toNat)
  have hxl : x < 256 := by rw [hx]; exact UInt8.toNat_lt _
  have hyl : y < 256 := by rw [hy]; exact UInt8.toNat_lt _
  have a1 := andNot7E x hxl
  have a2 := and127E y hyl
  have a3 := or64E y hyl
  have HCL := Lib.hid (clampL_eq l0 hl x y hx hy)
  obtain ⟨u, hu⟩ := nat_var (x / 8 * 8)
  obtain ⟨z, hz⟩ := nat_var (y % 128)
  obtain ⟨s, hs⟩ := nat_var (y % 64 + 64)
  rw [← hu] at a1 HCL
  rw [← hz] at a2 a3
  rw [← hs] at a3 HCL
  have HUL : Hid (u < 256) := Lib.hid (by omega)
  have HSL : Hid (s < 256) := Lib.hid (by omega)
  have HX : Hid (∀ h : 0 < l0.length, (l0[0]'h).toNat = x) := Lib.hid fun h => by rw [hx, List.getD_eq_getElem?_getD, List.getElem?_eq_getElem h]; rfl
  have HY : Hid (∀ h : 31 < (l0.set 0 (UInt8.ofNat u)).length, ((l0.set 0 (UInt8.ofNat u))[31]'h).toNat = y) := Lib.hid fun h => by rw [List.getElem_set_ne (by decide), hy, List.getD_eq_getElem?_getD, List.getElem?_eq_getElem (by rw [hl]; decide)]; rfl
  have HL2 : Hid ((l0.set 0 (UInt8.ofNat u)).length = 32) := Lib.hid (by rw [List.length_set, HL.out])
  clear h0 hN hx hy hxl hyl hu hz hs hl
  have Bw0 := Below.refl w.heap.size w
  have HGS : Hid (∀ wq : World, Below w.heap.size w wq → w.heap.size ≤ wq.heap.size) := Lib.hid fun wq h => h.size
  go_enter Tryz.func20, Tryz.ntmps20
  go_wp2_with (first
    | (have hgo := Bw0; clear hgo
       refine wpList_alloc_row rfl 48 rfl 4 (u64f fun _ => 0) zeroS ?_
       intro b_t2 w1 lk r_t2 kk
       have l_t2 := zrl HGS Bw0 lk
       have a_b0_t2 := Bs.away f_b0 lk
       replace f_b0 := zfb f_b0 kk
       have Bw1 := zbt HGS Bw0 kk
       clear Bw0 kk lk)
    | (have hgo := Bw1; clear hgo
       refine wpList_rows1 rfl (.tmp 3) rfl f_b0 rfl ?_
       intro v_r4 w2 F_r4 kk
       replace r_t2 := zrb r_t2 kk
       replace f_b0 := zfb f_b0 kk
       have Bw2 := zbt HGS Bw1 kk
       clear Bw1 kk)
    | (have hgo := Bw2; clear hgo
       go_at_call 21
       refine (cat_any _ _ _ F_r4 (by rw [List.flatten_singleton, HL.out]; decide)).mono ?_
       rintro e w3 ⟨v_c, rfl, o_c, kk⟩
       rw [List.flatten_singleton] at o_c
       clear F_r4
       obtain ⟨g, cap, hv, hg, hgs, _, _⟩ := o_c.open_cons (by rw [HL.out]; decide)
       rw [HL.out] at hv
       subst hv
       have n_c : b_t2 ≠ g := Nat.ne_of_lt (Nat.lt_of_lt_of_le (World.rowIs.lt r_t2) hg)
       have HCAP : Hid (32 ≤ cap) := Lib.hid (owns_cap o_c)
       have HGB : Hid (w.heap.size ≤ g) := Lib.hid (Nat.le_trans (HGS.out _ Bw2) hg)
       replace o_c := o_c.lower (HGS.out _ Bw2)
       clear hg hgs
       replace r_t2 := zrb r_t2 kk
       replace f_b0 := zfb f_b0 kk
       have Bw3 := zbt HGS Bw2 kk
       clear Bw2 kk)
    | (have hgo := Bw3; clear hgo
       refine wpList_load_byte rfl (.tmp 7) rfl 0 x o_c HL.out.symm (by rw [HL.out]; decide) rfl (HX.out _) ?_
       have Bw4 := Bw3
       clear Bw3)
    | (have hgo := Bw4; clear hgo
       refine wpList_store_byte rfl (.tmp 10) (.tmp 9) rfl 0 u o_c HL.out.symm HCAP.out (by rw [HL.out]; decide) rfl rfl HUL.out ?_
       intro w4 o_d gk
       have Bw5 := Bw4.grown gk (HGS.out _ Bw4) (by intro k hk; cases hk; exact HGB.out)
       replace r_t2 := gb_rowIs r_t2 gk n_c
       replace f_b0 := HF_b0.out.below Bw5 (Nat.le_refl _)
       clear Bw4 gk o_c )
    | (have hgo := Bw5; clear hgo
       refine wpList_load_byte rfl (.tmp 19) rfl 31 y o_d HL2.out.symm (by rw [HL2.out]; decide) rfl (HY.out _) ?_
       have Bw6 := Bw5
       clear Bw5)
    | (have hgo := Bw6; clear hgo
       refine wpList_store_byte rfl (.tmp 23) (.tmp 22) rfl 31 s o_d HL2.out.symm HCAP.out (by rw [HL2.out]; decide) rfl rfl HSL.out ?_
       intro w5 o_e gk
       have Bw7 := Bw6.grown gk (HGS.out _ Bw6) (by intro k hk; cases hk; exact HGB.out)
       replace r_t2 := gb_rowIs r_t2 gk n_c
       replace f_b0 := HF_b0.out.below Bw7 (Nat.le_refl _)
       have f_d := o_e.bs
       rw [HCL.out] at f_d
       clear Bw6 gk o_d o_e)
    | (have hgo := Bw7; clear hgo
       go_at_call 55
       refine (sWide_to _ _ _ f_d V HNV.out).mono ?_
       rintro e w6 ⟨rfl, kk⟩
       replace r_t2 := zrb r_t2 kk
       replace f_b0 := zfb f_b0 kk
       replace f_d := zfb f_d kk
       have Bw8 := zbt HGS Bw7 kk
       clear Bw7 kk)
    | (have hgo := Bw8; clear hgo
       refine wpList_store_as rfl 48 (.tmp 2) (.tmp 25) rfl 4 (ewF V) arrS r_t2 rfl rfl (by omega) (fun _ _ => rfl) (fun i hi => putN_whole hi) ?_
       intro w7 q gk
       replace r_t2 := q
       have Bw9 := zbg HGS Bw8 gk l_t2
       replace f_b0 := gb_bs f_b0 gk a_b0_t2
       clear f_d
       clear Bw8 gk q))
  exact ret_cell_as _ rfl arrS r_t2 rfl (by omega) (fun _ _ => rfl) rfl ⟨rfl, Bw9⟩
end Go.Proofs.YtonhpmaiagbheaaGreat

/- Signatures in numbers. -/
namespace Go.Proofs.YtonhpmaiagbheaaGreat
open Go.RowKit Go.Deep
set_option linter.unusedSimpArgs false
set_option linter.unusedVariables false

theorem sum512_length (l : List UInt8) : (k512.sum l).length = 64 := out_length k512 _ 8 rfl 8
/-- What a signature is made of. -/
def edA (seed : List UInt8) : Nat := numL (litB (clampN ((k512.sum seed).take 32)) 32) 64 % ordL
def edPub (seed : List UInt8) : List UInt8 := litB (encA (pmul dP bT (edA seed))) 32
def edR (seed text : List UInt8) : Nat := numL (k512.sum [(k512.sum seed).drop 32, text].flatten) 64 % ordL
def edRR (seed text : List UInt8) : List UInt8 := litB (encA (pmul dP bT (edR seed text))) 32
def edK (rr pub text : List UInt8) : Nat := numL (k512.sum [rr, pub, text].flatten) 64 % ordL
def edS (seed text : List UInt8) : Nat := (edR seed text + edK (edRR seed text) (edPub seed) text * edA seed % ordL) % ordL
def edSig (seed text : List UInt8) : List UInt8 := [edRR seed text, litB (edS seed text) 32].flatten
theorem edA_lt (s : List UInt8) : edA s < ordL := Nat.mod_lt _ ordL_pos
theorem edR_lt (s t : List UInt8) : edR s t < ordL := Nat.mod_lt _ ordL_pos
theorem edK_lt (r p t : List UInt8) : edK r p t < ordL := Nat.mod_lt _ ordL_pos
theorem edPub_length (s : List UInt8) : (edPub s).length = 32 := litB_length _ _
theorem edRR_length (s t : List UInt8) : (edRR s t).length = 32 := litB_length _ _
section
variable {pub sig text : List UInt8}
end
end Go.Proofs.YtonhpmaiagbheaaGreat

/- What the laws of chapter 8 share: is, awake. -/
namespace Go.Proofs.YtonhpmaiagbheaaGreat
open Go.RowKit Go.Deep
set_option linter.unusedSimpArgs false
set_option linter.unusedVariables false

end Go.Proofs.YtonhpmaiagbheaaGreat

/- The points of small order, the base's order: what PointOrder needs. -/
namespace Go.Proofs.YtonhpmaiagbheaaGreat
open Go.RowKit Go.Deep
set_option linter.unusedSimpArgs false
set_option linter.unusedVariables false

end Go.Proofs.YtonhpmaiagbheaaGreat

/- Signatures: the program's points and the document's stand for the same. -/
namespace Go.Proofs.YtonhpmaiagbheaaGreat
open Go.RowKit Go.Deep
set_option linter.unusedSimpArgs false
set_option linter.unusedVariables false

theorem enc_q {K : Nat} (h : K < ordL) : encQ (qMul bT K) = encA (pmul dP bT K) := by
  rw [(RQ.base.mul h).enc, (RT.base.mul (Nat.lt_trans h ordL_256)).enc]
theorem edPub_q (s : List UInt8) : litB (encQ (qMul bT (edA s))) 32 = edPub s := by
  unfold edPub
  rw [enc_q (edA_lt s)]
theorem edRR_q (s t : List UInt8) : litB (encQ (qMul bT (edR s t))) 32 = edRR s t := by
  unfold edRR
  rw [enc_q (edR_lt s t)]
end Go.Proofs.YtonhpmaiagbheaaGreat

/- The program's signer. -/
namespace Go.Proofs.YtonhpmaiagbheaaGreat
open Go.RowKit Go.Deep
set_option linter.unusedSimpArgs false
set_option linter.unusedVariables false

/-- The cells of a signer. -/
def sgF (A : Nat) (p q : Value) : Nat → Value := fun i => if i < 4 then ewF A i else if i = 4 then p else q
theorem sg_s (A : Nat) (p q : Value) (i : Nat) (h : i < 4) : sgF A p q (0 + i) = ewF A i := by
  unfold sgF
  rw [Nat.zero_add, if_pos h]
theorem builtSg0 (A : Nat) (a1 a2 : Option Addr) (n1 c1 n2 c2 : Nat) : Tryz.prog.built 57 [(0, .agg (arrOf 4 (ewF A))), (1, .slice a1 n1 c1), (2, .slice a2 n2 c2)] = some (arrOf 6 (sgF A (.slice a1 n1 c1) (.slice a2 n2 c2))) := by kernel_rfl
theorem builtSg (A : Nat) {w : World} {p q : Value} {l m : List UInt8} (h : Bs w p l) (k : Bs w q m) : Tryz.prog.built 57 [(0, .agg (arrOf 4 (ewF A))), (1, p), (2, q)] = some (arrOf 6 (sgF A p q)) := by
  obtain ⟨a1, c1, rfl, _⟩ := h
  obtain ⟨a2, c2, rfl, _⟩ := k
  exact builtSg0 A a1 a2 _ c1 _ c2
/-- A signer of the seed s lies at v. -/
def SgAt (w : World) (v : Value) (s : List UInt8) : Prop :=
  ∃ (b : Nat) (p : Value) (ad : Addr) (cap : Nat), v = .pointer (some ⟨b, 0, none⟩) ∧ w.rowIs b 57 6 (sgF (edA s) p (.slice (some ad) 32 cap)) ∧ Bs w p ((k512.sum s).drop 32) ∧ Bs w (.slice (some ad) 32 cap) (edPub s)
theorem SgAt.belowJ {w w' : World} {v : Value} {s : List UInt8} (h : SgAt w v s) (hb : Below w.heap.size w w') : SgAt w' v s := by
  obtain ⟨b, p, ad, cap, h1, h2, h3, h4⟩ := h
  exact ⟨b, p, ad, cap, h1, zrb h2 hb, h3.below hb (Nat.le_refl _), h4.below hb (Nat.le_refl _)⟩
theorem SgAt.drew {w : World} {v : Value} {s : List UInt8} (h : SgAt w v s) : SgAt w.drew v s := h
theorem SgAt.of {w : World} {b : Nat} {p q : Value} {s : List UInt8} {A : Nat} (hA : A = edA s) (h : w.rowIs b 57 6 (sgF A p q)) (hp : Bs w p ((k512.sum s).drop 32)) (hq : Bs w q (edPub s)) : SgAt w (.pointer (some ⟨b, 0, none⟩)) s := by
  rw [hA] at h
  have hq' := hq
  obtain ⟨a, cap, rfl, h1, h2, h3, h4⟩ := hq'
  rw [edPub_length] at h1 h hq
  cases a with
  | none => exact absurd h1 (by rw [h3 rfl]; decide)
  | some ad => exact ⟨b, p, ad, cap, rfl, h, hp, hq⟩
theorem sum512_one (v : Value) (l : List UInt8) (w : World) (hv : Bss w v [l]) (hlen : l.length < 2 ^ 59) : Calls Tryz.prog 19 #[v] w fun e w' => ∃ v', e = .returned v' ∧ Bs w' v' (k512.sum l) ∧ Below w.heap.size w w' := by
  have g := sum512_any v [l] w hv (by rw [List.flatten_singleton]; exact hlen)
  rwa [List.flatten_singleton] at g
theorem cat_one (v : Value) (l : List UInt8) (w : World) (hv : Bss w v [l]) (hlen : l.length ≤ 2147483647) : Calls Tryz.prog 21 #[v] w fun e w' => ∃ v', e = .returned v' ∧ Owns w' w.heap.size v' l ∧ Below w.heap.size w w' := by
  have g := cat_any v [l] w hv (by rw [List.flatten_singleton]; exact hlen)
  rwa [List.flatten_singleton] at g
theorem wpList_load_atg {P : Program} {ops : Array Oper} {rest : List Oper} {o : Oper} {a : Act} {w : World} {Q : Exit → Act → World → Prop} (hw : Region.wanted o (yielded ops a.tmps) = true) (ty : TypeId) (x : Operand) (ho : o.op = .load ty x) {b m i : Nat} {t : TypeId} {f : Nat → Value} (v : Value) (hr : w.rowIs b t m f) (hx : a.eval x = .pointer (some ⟨b, i, none⟩)) (hi : i < m) (hv : f i = v)
    (hu : (P.underlying ty).map (fun d => match d with | .struct _ | .array _ _ => true | _ => false) = some false) (h : wpList P ops Q rest (a.put o.dst v) w) : wpList P ops Q (o :: rest) a w := by
  have hc := hr.cell hi
  rw [hv] at hc
  exact wpList_value_given hw v (by rw [exec_mkOp, ho]; exact exec_load_cell a.eval ty x o.type hx hu hc) h
theorem stp_box_row {P : Program} {ops : Array Oper} {Q : Exit → Act → World → Prop} {i : Nat} {r : Stp} {a : Act} {w : World} {o : Oper} (d : Nat) (ty : TypeId) (x : Operand) (t : TypeId) (k : Nat) (f : Nat → Value) (ho : ops[i]? = some o) (hd : o.dst = some d) (hop : o.op = .box ty x) (ht : o.type = t)
    (hw : Region.wanted o (yielded ops a.tmps) = true) (hx : a.eval x = .agg (arrOf k f)) (h : ∀ b w', w.heap.size ≤ b → w'.rowIs b ty k f → Below w.heap.size w w' → LinT P ops Q r (a.put (some d) (.pointer (some ⟨b, 0, none⟩))) w') :
    wpOp P ops Q i (fun a' w' => Below w.heap.size w w' ∧ LinT P ops Q r a' w') a w := by
  have hb : Below w.heap.size w (w.alloc (.cells (arrOf k f) ty)) := (Below.refl _ _).alloc (Nat.le_refl _) _
  have hr : (execOp a.eval (mkOp (.box ty x) t)).run P w = .ok (.value (.pointer (some ⟨w.heap.size, 0, none⟩))) (w.alloc (.cells (arrOf k f) ty)) := by
    unfold execOp mkOp
    simp [hx, Instr.box, newVar, newRow, newObj, Value.cells, Result.andThen]
    rfl
  exact stp_made d _ t _ _ ho hd hop ht hw hr hb (h _ _ (Nat.le_refl _) (rowIs_arr _ _ _ _) hb)
set_option maxHeartbeats 4000000 in
set_option maxRecDepth 10000 in
theorem newSigner_no (v0 : Value) (l0 : List UInt8) (w : World) (h0 : Bs w v0 l0) (hl : ¬ l0.length = 32) : Calls Tryz.prog 9 #[v0] w fun e w' => e = .returned (.tuple #[.pointer none, .int .i64 1]) ∧ Below w.heap.size w w' := by
  obtain ⟨ad0, n0, c0, rfl, e0, y0, z0, hB0⟩ := h0.shape
  have q0 : ¬ (n0 : Int) = 32 := by omega
  clear h0 hB0
  have Bw0 := Below.refl w.heap.size w
  have HGS : Hid (∀ wq : World, Below w.heap.size w wq → w.heap.size ≤ wq.heap.size) := Lib.hid fun wq h => h.size
  go_enter Tryz.func9, Tryz.ntmps9
  go_wp2
  go_ret2
  exact ⟨rfl, Bw0⟩
set_option maxHeartbeats 4000000 in
set_option maxRecDepth 10000 in
theorem newSigner_yes (v0 : Value) (l0 : List UInt8) (w : World) (h0 : Bs w v0 l0) (hl : l0.length = 32) : Calls Tryz.prog 9 #[v0] w fun e w' => ∃ v, e = .returned (.tuple #[v, .int .i64 0]) ∧ SgAt w' v l0 ∧ Below w.heap.size w w' := by
  have HL := Lib.hid hl
  have h0' := h0
  obtain ⟨gb, off, c0, rfl, y0, z0, hgb, hcells⟩ := h0'.open_n hl (by decide)
  have f_b0 := h0
  obtain ⟨A, hA⟩ := nat_var (edA l0)
  have HNA : Hid (numL (litB (clampN ((k512.sum (l0)).take 32)) 32) 64 % ordL = A) := Lib.hid hA.symm
  have HA : Hid (A < ordL) := Lib.hid (by rw [hA]; exact edA_lt _)
  have HEA := Lib.hid hA
  have HM := Lib.hid fun w => qTMul_any bT A w LtT.base
  obtain ⟨pA, hpA⟩ : ∃ p, p = qMul bT A := ⟨_, rfl⟩
  have HPA : Hid (LtT pA) := Lib.hid (by rw [hpA]; exact LtT.oft _ _ _)
  have HE := Lib.hid fun w => qTEncode_any pA w HPA.out
  have heq : litB (encQ pA) 32 = edPub l0 := by rw [hpA, hA]; exact edPub_q l0
  rw [← hpA] at HM
  rw [heq] at HE
  have HCUT : Hid (32 ≤ (k512.sum (l0)).length) := Lib.hid (by rw [sum512_length]; decide)
  have HTL : Hid (((k512.sum (l0)).take 32).length = 32) := Lib.hid (by rw [List.length_take, sum512_length]; rfl)
  have HDL : Hid (((k512.sum (l0)).drop 32).length = 32) := Lib.hid (by rw [List.length_drop, sum512_length])
  clear h0 hl hA hpA heq hcells hgb
  have Bw0 := Below.refl w.heap.size w
  have HGS : Hid (∀ wq : World, Below w.heap.size w wq → w.heap.size ≤ wq.heap.size) := Lib.hid fun wq h => h.size
  have HF_b0 := Lib.hid f_b0
  go_enter Tryz.func9, Tryz.ntmps9
  go_wp2_with (first
    | (have hgo := Bw0; clear hgo
       refine wpList_rows1 rfl (.tmp 9) rfl f_b0 rfl ?_
       intro v_r10 w7 F_r10 kk
       replace f_b0 := zfb f_b0 kk
       have Bw1 := zbt HGS Bw0 kk
       clear Bw0 kk)
    | (have hgo := Bw1; clear hgo
       go_at_call 19
       refine (sum512_one _ (l0) _ F_r10 (by rw [HL.out]; decide)).mono ?_
       rintro e w8 ⟨v_s11, rfl, f_s11, kk⟩
       replace f_b0 := zfb f_b0 kk
       have Bw2 := zbt HGS Bw1 kk
       clear Bw1 kk)
    | (have hgo := Bw2; clear hgo
       obtain ⟨v_s13, f_s13, hr13⟩ := takeB f_s11 32 (HCUT.out)
       refine wpList_value rfl _ (by rw [exec_mkOp]; exact hr13 _ _ _ _ _ rfl rfl) ?_
       clear hr13
       have Bw3 := Bw2
       clear Bw2)
    | (have hgo := Bw3; clear hgo
       go_at_call 20
       refine (clamped_to _ _ A _ f_s13 HTL.out HNA.out).mono ?_
       rintro e w12 ⟨rfl, kk⟩
       replace f_b0 := zfb f_b0 kk
       replace f_s11 := zfb f_s11 kk
       replace f_s13 := zfb f_s13 kk
       have Bw4 := zbt HGS Bw3 kk
       clear Bw3 kk)
    | (have hgo := Bw4; clear hgo
       refine wpList_alloc_row rfl 48 rfl 4 (u64f fun _ => 0) zeroS ?_
       intro b_t5 w13 lk r_t5 kk
       have l_t5 := zrl HGS Bw4 lk
       have a_b0_t5 := Bs.away f_b0 lk
       have a_s11_t5 := Bs.away f_s11 lk
       have a_s13_t5 := Bs.away f_s13 lk
       replace f_b0 := zfb f_b0 kk
       replace f_s11 := zfb f_s11 kk
       replace f_s13 := zfb f_s13 kk
       have Bw5 := zbt HGS Bw4 kk
       clear Bw4 kk lk)
    | (have hgo := Bw5; clear hgo
       refine wpList_store_as rfl 48 (.tmp 5) (.tmp 14) rfl 4 (ewF A) arrS r_t5 rfl rfl (by omega) (fun _ _ => rfl) (fun i hi => putN_whole hi) ?_
       intro w14 q gk
       replace r_t5 := q
       have Bw6 := zbg HGS Bw5 gk l_t5
       replace f_b0 := gb_bs f_b0 gk a_b0_t5
       replace f_s11 := gb_bs f_s11 gk a_s11_t5
       replace f_s13 := gb_bs f_s13 gk a_s13_t5
       clear Bw5 gk q))
  clear f_b0 f_s13
  go_wp2
  have Bw7 := Bw6.drew
  replace r_t5 := World.rowIs.drew r_t5
  replace f_s11 := Bs.drew f_s11
  clear Bw6
  refine wp_region_lint (.rd 0 (.rd 1 (.rd 2 (.rd 6 (.wr 3 (.wr 4 (.wr 5 (.wr 7 (.wr 8 (.rd 9 (.wr 10 (.rd 11 (.rd 12 .done))))))))))))) (by kernel_rfl) (by kernel_rfl) (by decide) (by kernel_rfl) (fun d _ _ _ _ h => by cases d <;> exact h) ?_
  refine lint_pure 15 (Op.load 48 (Operand.tmp 5)) 48 (.agg (arrOf 4 (ewF A))) rfl rfl rfl rfl rfl (fun w0 hb0 => by exact exec_load_as _ _ _ _ (ewF A) rfl arrS (World.rowIs.of_block r_t5 (hb0.block _ (World.rowIs.lt r_t5))) (by omega) (fun i hi => by rw [Nat.zero_add])) ?_
  simp only [Act.put, zA, zB, zC]
  refine lint_pure 16 (Op.move (Operand.tmp 4)) 22 (v_s11) rfl rfl rfl rfl rfl (fun w0 hb0 => by unfold mkOp; go_simp; all_goals (with_reducible rfl)) ?_
  simp only [Act.put, zA, zB, zC]
  obtain ⟨v_s17, f_s17, hr17⟩ := dropB f_s11 32 (HCUT.out)
  refine lint_pure 17 (Op.slice 22 (Operand.tmp 16) (some (Operand.const (Value.int IntKind.i64 32))) none none) 22 v_s17 rfl rfl rfl rfl rfl (fun w0 hb0 => by exact hr17 _ _ _ _ w0 rfl rfl) ?_
  clear hr17
  simp only [Act.put, zA, zB, zC]
  refine lint_pure 21 (Op.load 48 (Operand.tmp 5)) 48 (.agg (arrOf 4 (ewF A))) rfl rfl rfl rfl rfl (fun w0 hb0 => by exact exec_load_as _ _ _ _ (ewF A) rfl arrS (World.rowIs.of_block r_t5 (hb0.block _ (World.rowIs.lt r_t5))) (by omega) (fun i hi => by rw [Nat.zero_add])) ?_
  simp only [Act.put, zA, zB, zC]
  refine stp_rows1 18 (.tmp 17) 23 rfl rfl rfl rfl rfl f_s17 rfl ?_
  intro w15 v_r18 F_r18 kk
  replace r_t5 := zrb r_t5 kk
  replace f_s11 := zfb f_s11 kk
  replace f_s17 := zfb f_s17 kk
  have Bw8 := zbt HGS Bw7 kk
  clear Bw7 kk
  simp only [Act.put, zA, zB, zC]
  refine stp_fn 19 21 #[Operand.tmp 18] #[23] _ (cat_one _ ((k512.sum (l0)).drop 32) _ F_r18 (by rw [HDL.out]; decide)) rfl rfl rfl rfl Tryz.func21 (by kernel_rfl) (by kernel_rfl) (by go_simp) ?_
  rintro e w16 ⟨v_s19, rfl, o_s19, kk⟩
  refine ⟨_, rfl, kk, ?_⟩
  replace r_t5 := zrb r_t5 kk
  replace f_s11 := zfb f_s11 kk
  replace f_s17 := zfb f_s17 kk
  have Bw9 := zbt HGS Bw8 kk
  clear Bw8 kk
  have f_s19 := o_s19.bs
  clear o_s19
  simp only [Act.put, zA, zB, zC]
  refine stp_fn 20 22 #[] #[] _ (qTBase_any _) rfl rfl rfl rfl Tryz.func22 (by kernel_rfl) (by kernel_rfl) (by go_simp) ?_
  rintro e w17 ⟨rfl, kk⟩
  refine ⟨_, rfl, kk, ?_⟩
  replace r_t5 := zrb r_t5 kk
  replace f_s11 := zfb f_s11 kk
  replace f_s17 := zfb f_s17 kk
  replace f_s19 := zfb f_s19 kk
  have Bw10 := zbt HGS Bw9 kk
  clear Bw9 kk
  simp only [Act.put, zA, zB, zC]
  refine stp_fn 22 23 #[Operand.tmp 20, Operand.tmp 21] #[53, 48] _ (HM.out _) rfl rfl rfl rfl Tryz.func23 (by kernel_rfl) (by kernel_rfl) (by go_simp) ?_
  rintro e w18 ⟨rfl, kk⟩
  refine ⟨_, rfl, kk, ?_⟩
  replace r_t5 := zrb r_t5 kk
  replace f_s11 := zfb f_s11 kk
  replace f_s17 := zfb f_s17 kk
  replace f_s19 := zfb f_s19 kk
  have Bw11 := zbt HGS Bw10 kk
  clear Bw10 kk
  simp only [Act.put, zA, zB, zC]
  refine stp_fn 23 24 #[Operand.tmp 22] #[53] _ (HE.out _ ) rfl rfl rfl rfl Tryz.func24 (by kernel_rfl) (by kernel_rfl) (by go_simp) ?_
  rintro e w19 ⟨v_s23, rfl, o_s23, kk⟩
  refine ⟨_, rfl, kk, ?_⟩
  replace r_t5 := zrb r_t5 kk
  replace f_s11 := zfb f_s11 kk
  replace f_s17 := zfb f_s17 kk
  replace f_s19 := zfb f_s19 kk
  have Bw12 := zbt HGS Bw11 kk
  clear Bw11 kk
  have f_s23 := o_s23.bs
  clear o_s23
  simp only [Act.put, zA, zB, zC]
  refine lint_pure 24 (Op.build 57 #[(0, Operand.tmp 15), (1, Operand.tmp 19), (2, Operand.tmp 23)]) 57 (.agg (arrOf 6 (sgF A v_s19 v_s23))) rfl rfl rfl rfl rfl (fun w0 hb0 => by refine exec_build_as _ _ _ ?_; simp only [List.map_toArray, List.map_cons, List.map_nil]; exact builtSg A f_s19 f_s23) ?_
  simp only [Act.put, zA, zB, zC]
  refine stp_box_row 25 57 (.tmp 24) 30 6 (sgF A v_s19 v_s23) rfl rfl rfl rfl rfl rfl ?_
  intro b_t25 w20 lk r_t25 kk
  have n_t5_t25 := zrn r_t5 lk
  have l_t25 := zrl HGS Bw12 lk
  have a_s11_t25 := Bs.away f_s11 lk
  have a_s17_t25 := Bs.away f_s17 lk
  have a_s19_t25 := Bs.away f_s19 lk
  have a_s23_t25 := Bs.away f_s23 lk
  replace r_t5 := zrb r_t5 kk
  replace f_s11 := zfb f_s11 kk
  replace f_s17 := zfb f_s17 kk
  replace f_s19 := zfb f_s19 kk
  replace f_s23 := zfb f_s23 kk
  have Bw13 := zbt HGS Bw12 kk
  clear Bw12 kk lk
  simp only [Act.put, zA, zB, zC]
  refine lint_pure 2 (Op.assign (Operand.tmp 25)) 30 (.pointer (some ⟨b_t25, 0, none⟩)) rfl rfl rfl rfl rfl (fun w0 hb0 => by unfold mkOp; go_simp; all_goals (with_reducible rfl)) ?_
  simp only [Act.put, zA, zB, zC]
  refine lint_pure 3 (Op.assign (Operand.const (Value.int IntKind.i64 0))) 26 ((.int .i64 0)) rfl rfl rfl rfl rfl (fun w0 hb0 => by unfold mkOp; go_simp; all_goals (with_reducible rfl)) ?_
  simp only [Act.put, zA, zB, zC]
  refine lint_end ?_
  go_wp2
  go_ret2
  exact ⟨_, rfl, SgAt.of HEA.out r_t25 f_s19 f_s23, Bw13⟩
set_option maxHeartbeats 4000000 in
set_option maxRecDepth 10000 in
theorem sgPublic_nil (w : World) : Calls Tryz.prog 11 #[.pointer none] w fun e w' => e = .returned (.slice none 0 0) ∧ Below w.heap.size w w' := by
  have Bw0 := Below.refl w.heap.size w
  have HGS : Hid (∀ wq : World, Below w.heap.size w wq → w.heap.size ≤ wq.heap.size) := Lib.hid fun wq h => h.size
  go_enter Tryz.func11, Tryz.ntmps11
  go_wp2
  go_ret
  exact ⟨rfl, Bw0⟩
set_option maxHeartbeats 4000000 in
set_option maxRecDepth 10000 in
theorem sgPublic_any (v0 : Value) (s0 : List UInt8) (w : World) (hs : SgAt w v0 s0) : Calls Tryz.prog 11 #[v0] w fun e w' => (∃ v', e = .returned v' ∧ Owns w' w.heap.size v' (edPub s0) ∧ Below w.heap.size w w') := by
  obtain ⟨b_sg, v_p, ad, cap, rfl, r_sg, f_p, f_q⟩ := hs
  have hlq := edPub_length s0
  obtain ⟨A, hA⟩ := nat_var (edA s0)
  have HA : Hid (A < ordL) := Lib.hid (by rw [hA]; exact edA_lt _)
  rw [← hA] at r_sg
  have HEA := Lib.hid hA
  clear hA
  have HLP := Lib.hid hlq
  clear hlq
  have Bw0 := Below.refl w.heap.size w
  have HGS : Hid (∀ wq : World, Below w.heap.size w wq → w.heap.size ≤ wq.heap.size) := Lib.hid fun wq h => h.size
  go_enter Tryz.func11, Tryz.ntmps11
  go_wp2_with (first
    | (have hgo := Bw0; clear hgo
       refine wpList_load_at rfl 22 (.tmp 7) rfl (.slice (some ad) 32 cap) (i := 5) r_sg rfl (by omega) rfl (by kernel_rfl) ?_
       have Bw1 := Bw0
       clear Bw0)
    | (have hgo := Bw1; clear hgo
       refine wpList_rows1 rfl (.tmp 8) rfl f_q rfl ?_
       intro v_r9 w8 F_r9 kk
       replace r_sg := zrb r_sg kk
       replace f_p := zfb f_p kk
       replace f_q := zfb f_q kk
       have Bw2 := zbt HGS Bw1 kk
       clear Bw1 kk)
    | (have hgo := Bw2; clear hgo
       go_at_call 21
       refine (cat_one _ (edPub s0) _ F_r9 (by rw [HLP.out]; decide)).mono ?_
       rintro e w9 ⟨v_s10, rfl, o_s10, kk⟩
       replace o_s10 := Owns.lower o_s10 (HGS.out _ Bw2)
       replace r_sg := zrb r_sg kk
       replace f_p := zfb f_p kk
       replace f_q := zfb f_q kk
       have Bw3 := zbt HGS Bw2 kk
       clear Bw2 kk
       have f_s10 := o_s10.bs))
  go_ret
  exact ⟨_, rfl, o_s10, Bw3⟩
set_option maxHeartbeats 4000000 in
set_option maxRecDepth 10000 in
theorem sgSign_nil (v1 : Value) (w : World) : Calls Tryz.prog 10 #[.pointer none, v1] w fun e w' => e = .returned (.slice none 0 0) ∧ Below w.heap.size w w' := by
  have Bw0 := Below.refl w.heap.size w
  have HGS : Hid (∀ wq : World, Below w.heap.size w wq → w.heap.size ≤ wq.heap.size) := Lib.hid fun wq h => h.size
  go_enter Tryz.func10, Tryz.ntmps10
  go_wp2
  go_ret
  exact ⟨rfl, Bw0⟩
set_option maxHeartbeats 4000000 in
set_option maxRecDepth 10000 in
theorem sgSign_any (v0 v1 : Value) (s0 : List UInt8) (L0 : List (List UInt8)) (w : World) (hs : SgAt w v0 s0) (h1 : Bss w v1 L0) (hn : 2 + L0.length ≤ 2147483647) (hl : L0.flatten.length < 2 ^ 29) : Calls Tryz.prog 10 #[v0, v1] w fun e w' => (∃ v', e = .returned v' ∧ Owns w' w.heap.size v' (edSig s0 L0.flatten) ∧ Below w.heap.size w w') := by
  obtain ⟨b_sg, v_p, ad, cap, rfl, r_sg, f_p, f_q⟩ := hs
  have hlq := edPub_length s0
  obtain ⟨A, hA⟩ := nat_var (edA s0)
  have HA : Hid (A < ordL) := Lib.hid (by rw [hA]; exact edA_lt _)
  rw [← hA] at r_sg
  have HEA := Lib.hid hA
  clear hA
  obtain ⟨t0, ht⟩ : ∃ t, t = L0.flatten := ⟨_, rfl⟩
  have HLS := Lib.hid h1
  have HN0 := Lib.hid hn
  have HLT : Hid (t0.length < 2 ^ 29) := Lib.hid (by rw [ht]; exact hl)
  obtain ⟨R, hR⟩ := nat_var (edR s0 t0)
  have HR : Hid (R < ordL) := Lib.hid (by rw [hR]; exact edR_lt _ _)
  have HD : Hid (((k512.sum s0).drop 32).length = 32) := Lib.hid (by rw [List.length_drop, sum512_length])
  have HF1 : Hid (([(k512.sum s0).drop 32] ++ L0).flatten = (k512.sum s0).drop 32 ++ t0) := Lib.hid (by rw [ht, List.flatten_append, List.flatten_singleton])
  have HNR : Hid (numL (k512.sum ([(k512.sum s0).drop 32] ++ L0).flatten) 64 % ordL = R) := Lib.hid (by rw [HF1.out, hR]; unfold edR; simp only [List.flatten_cons, List.flatten_nil, List.append_nil])
  obtain ⟨pR, hpR⟩ : ∃ p, p = qMul bT R := ⟨_, rfl⟩
  have HPR : Hid (LtT pR) := Lib.hid (by rw [hpR]; exact LtT.oft _ _ _)
  have hnil : ∀ W, (binOp .eql 22 (.slice (some ad) 32 cap) (.slice none 0 0)).run Tryz.prog W = .ok (.bool false) W := fun W => Lib.run_eql_slice_some_nil W _ _ _ Tryz.underlying22
  have HM := Lib.hid fun w => qTMul_any bT R w LtT.base
  rw [← hpR] at HM
  have HE := Lib.hid fun w => qTEncode_any pR w HPR.out
  have heq : litB (encQ pR) 32 = edRR s0 t0 := by rw [hpR, hR]; exact edRR_q s0 t0
  rw [heq] at HE
  obtain ⟨rr, hrr⟩ : ∃ l, l = edRR s0 t0 := ⟨_, rfl⟩
  have HRL : Hid (rr.length = 32) := Lib.hid (by rw [hrr]; exact edRR_length _ _)
  rw [← hrr] at HE
  obtain ⟨pb, hpb⟩ : ∃ l, l = edPub s0 := ⟨_, rfl⟩
  have HPL : Hid (pb.length = 32) := Lib.hid (by rw [hpb]; exact edPub_length _)
  rw [← hpb] at f_q
  obtain ⟨K, hK⟩ := nat_var (edK rr pb t0)
  have HK : Hid (K < ordL) := Lib.hid (by rw [hK]; exact edK_lt _ _ _)
  have HF2 : Hid (([rr, pb] ++ L0).flatten = rr ++ (pb ++ t0)) := Lib.hid (by rw [ht, List.flatten_append]; simp only [List.flatten_cons, List.flatten_nil, List.append_nil, List.append_assoc])
  have HNK : Hid (numL (k512.sum ([rr, pb] ++ L0).flatten) 64 % ordL = K) := Lib.hid (by rw [HF2.out, hK]; unfold edK; simp only [List.flatten_cons, List.flatten_nil, List.append_nil])
  have HSIG : Hid ([rr, litB ((R + (K * A % ordL)) % ordL) 32].flatten = edSig s0 t0) := Lib.hid (by rw [hK, hR, hrr, hpb, HEA.out]; rfl)
  rw [← ht]
  clear hR hpR heq hK hrr hpb h1 hn hl hlq ht
  have Bw0 := Below.refl w.heap.size w
  have HGS : Hid (∀ wq : World, Below w.heap.size w wq → w.heap.size ≤ wq.heap.size) := Lib.hid fun wq h => h.size
  go_enter Tryz.func10, Tryz.ntmps10
  go_wp2_with (first
    | (have hgo := Bw0; clear hgo
       refine wpList_load_atg rfl 22 (.tmp 13) rfl (.slice (some ad) 32 cap) (i := 5) r_sg rfl (by omega) rfl (by kernel_rfl) ?_
       have Bw1 := Bw0
       clear Bw0)
    | (have hgo := Bw1; clear hgo
       refine wpList_load_at rfl 22 (.tmp 20) rfl (v_p) (i := 4) r_sg rfl (by omega) rfl (by kernel_rfl) ?_
       have Bw2 := Bw1
       clear Bw1)
    | (have hgo := Bw2; clear hgo
       refine wpList_rowsF1 rfl (.tmp 21) rfl f_p rfl ?_
       intro ad16 w16 F_r kk
       replace r_sg := zrb r_sg kk
       replace f_p := zfb f_p kk
       replace f_q := zfb f_q kk
       have Bw3 := zbt HGS Bw2 kk
       clear Bw2 kk)
    | (have hgo := Bw3; clear hgo
       go_at_call 25
       refine (number_to _ _ _ [(k512.sum s0).drop 32] L0 R _ (HLS.out.below Bw3 (Nat.le_refl _)) F_r (by have := HN0.out; simp; omega) (by have := HLT.out; rw [HF1.out, List.length_append, HD.out]; omega) HNR.out).mono ?_
       rintro e w17 ⟨rfl, kk⟩
       clear F_r
       replace r_sg := zrb r_sg kk
       replace f_p := zfb f_p kk
       replace f_q := zfb f_q kk
       have Bw4 := zbt HGS Bw3 kk
       clear Bw3 kk)
    | (have hgo := Bw4; clear hgo
       refine wpList_alloc_row rfl 48 rfl 4 (u64f fun _ => 0) zeroS ?_
       intro b_t5 w18 lk r_t5 kk
       have n_sg_t5 := zrn r_sg lk
       have l_t5 := zrl HGS Bw4 lk
       have a_p_t5 := Bs.away f_p lk
       have a_q_t5 := Bs.away f_q lk
       replace r_sg := zrb r_sg kk
       replace f_p := zfb f_p kk
       replace f_q := zfb f_q kk
       have Bw5 := zbt HGS Bw4 kk
       clear Bw4 kk lk)
    | (have hgo := Bw5; clear hgo
       refine wpList_store_as rfl 48 (.tmp 5) (.tmp 23) rfl 4 (ewF R) arrS r_t5 rfl rfl (by omega) (fun _ _ => rfl) (fun i hi => putN_whole hi) ?_
       intro w19 q gk
       replace r_sg := gb_rowIs r_sg gk n_sg_t5
       replace r_t5 := q
       have Bw6 := zbg HGS Bw5 gk l_t5
       replace f_p := gb_bs f_p gk a_p_t5
       replace f_q := gb_bs f_q gk a_q_t5
       clear Bw5 gk q))
  have Bw7 := Bw6.drew
  replace r_sg := World.rowIs.drew r_sg
  replace r_t5 := World.rowIs.drew r_t5
  replace f_p := Bs.drew f_p
  replace f_q := Bs.drew f_q
  clear Bw6
  refine wp_region_lint (.rd 1 (.wr 0 (.wr 2 (.wr 3 (.rd 4 .done))))) (by kernel_rfl) (by kernel_rfl) (by decide) (by kernel_rfl) (fun d _ _ _ _ h => by cases d <;> exact h) ?_
  refine lint_pure 25 (Op.load 48 (Operand.tmp 5)) 48 (.agg (arrOf 4 (ewF R))) rfl rfl rfl rfl rfl (fun w0 hb0 => by exact exec_load_as _ _ _ _ (ewF R) rfl arrS (World.rowIs.of_block r_t5 (hb0.block _ (World.rowIs.lt r_t5))) (by omega) (fun i hi => by rw [Nat.zero_add])) ?_
  simp only [Act.put, zA, zB, zC]
  refine stp_fn 24 22 #[] #[] _ (qTBase_any _) rfl rfl rfl rfl Tryz.func22 (by kernel_rfl) (by kernel_rfl) (by go_simp) ?_
  rintro e w20 ⟨rfl, kk⟩
  refine ⟨_, rfl, kk, ?_⟩
  replace r_sg := zrb r_sg kk
  replace r_t5 := zrb r_t5 kk
  replace f_p := zfb f_p kk
  replace f_q := zfb f_q kk
  have Bw8 := zbt HGS Bw7 kk
  clear Bw7 kk
  simp only [Act.put, zA, zB, zC]
  refine stp_fn 26 23 #[Operand.tmp 24, Operand.tmp 25] #[53, 48] _ (HM.out _) rfl rfl rfl rfl Tryz.func23 (by kernel_rfl) (by kernel_rfl) (by go_simp) ?_
  rintro e w21 ⟨rfl, kk⟩
  refine ⟨_, rfl, kk, ?_⟩
  replace r_sg := zrb r_sg kk
  replace r_t5 := zrb r_t5 kk
  replace f_p := zfb f_p kk
  replace f_q := zfb f_q kk
  have Bw9 := zbt HGS Bw8 kk
  clear Bw8 kk
  simp only [Act.put, zA, zB, zC]
  refine stp_fn 27 24 #[Operand.tmp 26] #[53] _ (HE.out _ ) rfl rfl rfl rfl Tryz.func24 (by kernel_rfl) (by kernel_rfl) (by go_simp) ?_
  rintro e w22 ⟨v_s27, rfl, o_s27, kk⟩
  refine ⟨_, rfl, kk, ?_⟩
  replace r_sg := zrb r_sg kk
  replace r_t5 := zrb r_t5 kk
  replace f_p := zfb f_p kk
  replace f_q := zfb f_q kk
  have Bw10 := zbt HGS Bw9 kk
  clear Bw9 kk
  have f_s27 := o_s27.bs
  clear o_s27
  simp only [Act.put, zA, zB, zC]
  refine lint_pure 6 (Op.assign (Operand.tmp 27)) 22 (v_s27) rfl rfl rfl rfl rfl (fun w0 hb0 => by unfold mkOp; go_simp; all_goals (with_reducible rfl)) ?_
  simp only [Act.put, zA, zB, zC]
  refine lint_end ?_
  go_wp2_with (first
    | (have hgo := Bw10; clear hgo
       refine wpList_load_at rfl 22 (.tmp 32) rfl (.slice (some ad) 32 cap) (i := 5) r_sg rfl (by omega) rfl (by kernel_rfl) ?_
       have Bw11 := Bw10
       clear Bw10)
    | (have hgo := Bw11; clear hgo
       refine wpList_rowsF2 rfl (.tmp 29) (.tmp 33) rfl f_s27 f_q rfl rfl ?_
       intro ad29 w29 F_r kk
       replace r_sg := zrb r_sg kk
       replace r_t5 := zrb r_t5 kk
       replace f_p := zfb f_p kk
       replace f_q := zfb f_q kk
       replace f_s27 := zfb f_s27 kk
       have Bw12 := zbt HGS Bw11 kk
       clear Bw11 kk)
    | (have hgo := Bw12; clear hgo
       go_at_call 25
       refine (number_to _ _ _ [rr, pb] L0 K _ (HLS.out.below Bw12 (Nat.le_refl _)) F_r (by have := HN0.out; simp; omega) (by have := HLT.out; rw [HF2.out, List.length_append, List.length_append, HRL.out, HPL.out]; omega) HNK.out).mono ?_
       rintro e w30 ⟨rfl, kk⟩
       clear F_r
       replace r_sg := zrb r_sg kk
       replace r_t5 := zrb r_t5 kk
       replace f_p := zfb f_p kk
       replace f_q := zfb f_q kk
       replace f_s27 := zfb f_s27 kk
       have Bw13 := zbt HGS Bw12 kk
       clear Bw12 kk)
    | (have hgo := Bw13; clear hgo
       refine wpList_alloc_row rfl 48 rfl 4 (u64f fun _ => 0) zeroS ?_
       intro b_t7 w31 lk r_t7 kk
       have n_sg_t7 := zrn r_sg lk
       have n_t5_t7 := zrn r_t5 lk
       have l_t7 := zrl HGS Bw13 lk
       have a_p_t7 := Bs.away f_p lk
       have a_q_t7 := Bs.away f_q lk
       have a_s27_t7 := Bs.away f_s27 lk
       replace r_sg := zrb r_sg kk
       replace r_t5 := zrb r_t5 kk
       replace f_p := zfb f_p kk
       replace f_q := zfb f_q kk
       replace f_s27 := zfb f_s27 kk
       have Bw14 := zbt HGS Bw13 kk
       clear Bw13 kk lk)
    | (have hgo := Bw14; clear hgo
       refine wpList_store_as rfl 48 (.tmp 7) (.tmp 35) rfl 4 (ewF K) arrS r_t7 rfl rfl (by omega) (fun _ _ => rfl) (fun i hi => putN_whole hi) ?_
       intro w32 q gk
       replace r_sg := gb_rowIs r_sg gk n_sg_t7
       replace r_t5 := gb_rowIs r_t5 gk n_t5_t7
       replace r_t7 := q
       have Bw15 := zbg HGS Bw14 gk l_t7
       replace f_p := gb_bs f_p gk a_p_t7
       replace f_q := gb_bs f_q gk a_q_t7
       replace f_s27 := gb_bs f_s27 gk a_s27_t7
       clear Bw14 gk q))
  have Bw16 := Bw15.drew
  replace r_sg := World.rowIs.drew r_sg
  replace r_t5 := World.rowIs.drew r_t5
  replace r_t7 := World.rowIs.drew r_t7
  replace f_p := Bs.drew f_p
  replace f_q := Bs.drew f_q
  replace f_s27 := Bs.drew f_s27
  clear Bw15
  refine wp_region_lint (.rd 0 (.rd 1 (.rd 2 (.rd 3 (.rd 4 (.rd 5 (.rd 6 (.wr 7 (.wr 8 (.wr 9 (.wr 10 (.wr 11 (.rd 12 .done))))))))))))) (by kernel_rfl) (by kernel_rfl) (by decide) (by kernel_rfl) (fun d _ _ _ _ h => by cases d <;> exact h) ?_
  refine lint_pure 36 (Op.move (Operand.tmp 6)) 22 (v_s27) rfl rfl rfl rfl rfl (fun w0 hb0 => by unfold mkOp; go_simp; all_goals (with_reducible rfl)) ?_
  simp only [Act.put, zA, zB, zC]
  refine lint_pure 37 (Op.load 48 (Operand.tmp 5)) 48 (.agg (arrOf 4 (ewF R))) rfl rfl rfl rfl rfl (fun w0 hb0 => by exact exec_load_as _ _ _ _ (ewF R) rfl arrS (World.rowIs.of_block r_t5 (hb0.block _ (World.rowIs.lt r_t5))) (by omega) (fun i hi => by rw [Nat.zero_add])) ?_
  simp only [Act.put, zA, zB, zC]
  refine lint_pure 38 (Op.load 48 (Operand.tmp 7)) 48 (.agg (arrOf 4 (ewF K))) rfl rfl rfl rfl rfl (fun w0 hb0 => by exact exec_load_as _ _ _ _ (ewF K) rfl arrS (World.rowIs.of_block r_t7 (hb0.block _ (World.rowIs.lt r_t7))) (by omega) (fun i hi => by rw [Nat.zero_add])) ?_
  simp only [Act.put, zA, zB, zC]
  refine lint_pure 39 (Op.move (Operand.tmp 0)) 30 (.pointer (some ⟨b_sg, 0, none⟩)) rfl rfl rfl rfl rfl (fun w0 hb0 => by unfold mkOp; go_simp; all_goals (with_reducible rfl)) ?_
  simp only [Act.put, zA, zB, zC]
  refine lint_pure 40 (Op.nilCheck (Operand.tmp 39)) 0 (.pointer (some ⟨b_sg, 0, none⟩)) rfl rfl rfl rfl rfl (fun w0 hb0 => by unfold mkOp; go_simp; all_goals (with_reducible rfl)) ?_
  simp only [Act.put, zA, zB, zC]
  refine lint_pure 41 (Op.fieldAddr 57 (Operand.tmp 40) 0) 0 (.pointer (some ⟨b_sg, 0, none⟩)) rfl rfl rfl rfl rfl (fun w0 hb0 => by unfold mkOp; go_simp; all_goals (with_reducible rfl)) ?_
  simp only [Act.put, zA, zB, zC]
  refine lint_pure 42 (Op.load 48 (Operand.tmp 41)) 48 (.agg (arrOf 4 (ewF A))) rfl rfl rfl rfl rfl (fun w0 hb0 => by exact exec_load_as _ _ _ _ (ewF A) rfl arrS (World.rowIs.of_block r_sg (hb0.block _ (World.rowIs.lt r_sg))) (by omega) (fun i hi => sg_s _ _ _ i hi)) ?_
  simp only [Act.put, zA, zB, zC]
  refine stp_fn 43 27 #[Operand.tmp 38, Operand.tmp 42] #[48, 48] _ (sMul_any K A _ HK.out HA.out) rfl rfl rfl rfl Tryz.func27 (by kernel_rfl) (by kernel_rfl) (by go_simp) ?_
  rintro e w33 ⟨rfl, kk⟩
  refine ⟨_, rfl, kk, ?_⟩
  replace r_sg := zrb r_sg kk
  replace r_t5 := zrb r_t5 kk
  replace r_t7 := zrb r_t7 kk
  replace f_p := zfb f_p kk
  replace f_q := zfb f_q kk
  replace f_s27 := zfb f_s27 kk
  have Bw17 := zbt HGS Bw16 kk
  clear Bw16 kk
  simp only [Act.put, zA, zB, zC]
  refine stp_fn 44 26 #[Operand.tmp 37, Operand.tmp 43] #[48, 48] _ (sAdd_any R (K * A % ordL) _ HR.out (Nat.mod_lt _ ordL_pos)) rfl rfl rfl rfl Tryz.func26 (by kernel_rfl) (by kernel_rfl) (by go_simp) ?_
  rintro e w34 ⟨rfl, kk⟩
  refine ⟨_, rfl, kk, ?_⟩
  replace r_sg := zrb r_sg kk
  replace r_t5 := zrb r_t5 kk
  replace r_t7 := zrb r_t7 kk
  replace f_p := zfb f_p kk
  replace f_q := zfb f_q kk
  replace f_s27 := zfb f_s27 kk
  have Bw18 := zbt HGS Bw17 kk
  clear Bw17 kk
  simp only [Act.put, zA, zB, zC]
  refine stp_fn 45 28 #[Operand.tmp 44] #[48] _ (sBytes_any ((R + (K * A % ordL)) % ordL) _) rfl rfl rfl rfl Tryz.func28 (by kernel_rfl) (by kernel_rfl) (by go_simp) ?_
  rintro e w35 ⟨v_s45, rfl, o_s45, kk⟩
  refine ⟨_, rfl, kk, ?_⟩
  replace r_sg := zrb r_sg kk
  replace r_t5 := zrb r_t5 kk
  replace r_t7 := zrb r_t7 kk
  replace f_p := zfb f_p kk
  replace f_q := zfb f_q kk
  replace f_s27 := zfb f_s27 kk
  have Bw19 := zbt HGS Bw18 kk
  clear Bw18 kk
  have f_s45 := o_s45.bs
  clear o_s45
  simp only [Act.put, zA, zB, zC]
  refine stp_rows2 46 (.tmp 36) (.tmp 45) 23 rfl rfl rfl rfl rfl f_s27 f_s45 rfl rfl ?_
  intro w36 v_r46 F_r46 kk
  replace r_sg := zrb r_sg kk
  replace r_t5 := zrb r_t5 kk
  replace r_t7 := zrb r_t7 kk
  replace f_p := zfb f_p kk
  replace f_q := zfb f_q kk
  replace f_s27 := zfb f_s27 kk
  replace f_s45 := zfb f_s45 kk
  have Bw20 := zbt HGS Bw19 kk
  clear Bw19 kk
  simp only [Act.put, zA, zB, zC]
  refine stp_fn 47 21 #[Operand.tmp 46] #[23] _ (cat_any _ [rr, litB ((R + (K * A % ordL)) % ordL) 32] _ F_r46 (by simp [litB_length, HRL.out])) rfl rfl rfl rfl Tryz.func21 (by kernel_rfl) (by kernel_rfl) (by go_simp) ?_
  rintro e w37 ⟨v_s47, rfl, o_s47, kk⟩
  refine ⟨_, rfl, kk, ?_⟩
  replace o_s47 := Owns.lower o_s47 (HGS.out _ Bw20)
  replace r_sg := zrb r_sg kk
  replace r_t5 := zrb r_t5 kk
  replace r_t7 := zrb r_t7 kk
  replace f_p := zfb f_p kk
  replace f_q := zfb f_q kk
  replace f_s27 := zfb f_s27 kk
  replace f_s45 := zfb f_s45 kk
  have Bw21 := zbt HGS Bw20 kk
  clear Bw20 kk
  have f_s47 := o_s47.bs
  simp only [Act.put, zA, zB, zC]
  refine lint_pure 4 (Op.assign (Operand.tmp 47)) 22 (v_s47) rfl rfl rfl rfl rfl (fun w0 hb0 => by unfold mkOp; go_simp; all_goals (with_reducible rfl)) ?_
  simp only [Act.put, zA, zB, zC]
  refine lint_end ?_
  go_wp2
  go_ret
  exact ⟨_, rfl, by rw [← HSIG.out]; exact o_s47, Bw21⟩
end Go.Proofs.YtonhpmaiagbheaaGreat

/- The program's Public, Sign, Verify. -/
namespace Go.Proofs.YtonhpmaiagbheaaGreat
open Go.RowKit Go.Deep
set_option linter.unusedSimpArgs false
set_option linter.unusedVariables false

set_option maxHeartbeats 4000000 in
set_option maxRecDepth 10000 in
theorem public_no (v0 : Value) (l0 : List UInt8) (w : World) (h0 : Bs w v0 l0) (hl : ¬ l0.length = 32) : Calls Tryz.prog 7 #[v0] w fun e w' => e = .returned (.tuple #[.slice none 0 0, .int .i64 1]) ∧ Below w.heap.size w w' := by
  have HL := Lib.hid hl
  have f_b0 := h0
  clear h0 hl
  have Bw0 := Below.refl w.heap.size w
  have HGS : Hid (∀ wq : World, Below w.heap.size w wq → w.heap.size ≤ wq.heap.size) := Lib.hid fun wq h => h.size
  have HF_b0 := Lib.hid f_b0
  go_enter Tryz.func7, Tryz.ntmps7
  go_wp2_with (first
    | (have hgo := Bw0; clear hgo
       go_at_call 9
       refine (newSigner_no _ _ _ f_b0 HL.out).mono ?_
       rintro e w4 ⟨rfl, kk⟩
       replace f_b0 := zfb f_b0 kk
       have Bw1 := zbt HGS Bw0 kk
       clear Bw0 kk)
    | (have hgo := Bw1; clear hgo
       go_at_call 11
       refine (sgPublic_nil _).mono ?_
       rintro e w11 ⟨rfl, kk⟩
       replace f_b0 := zfb f_b0 kk
       have Bw2 := zbt HGS Bw1 kk
       clear Bw1 kk))
  go_ret2
  exact ⟨rfl, Bw2⟩
set_option maxHeartbeats 4000000 in
set_option maxRecDepth 10000 in
theorem public_yes (v0 : Value) (l0 : List UInt8) (w : World) (h0 : Bs w v0 l0) (hl : l0.length = 32) : Calls Tryz.prog 7 #[v0] w fun e w' => ∃ v, e = .returned (.tuple #[v, .int .i64 0]) ∧ Owns w' w.heap.size v (edPub l0) ∧ Below w.heap.size w w' := by
  have HL := Lib.hid hl
  have f_b0 := h0
  clear h0 hl
  have Bw0 := Below.refl w.heap.size w
  have HGS : Hid (∀ wq : World, Below w.heap.size w wq → w.heap.size ≤ wq.heap.size) := Lib.hid fun wq h => h.size
  have HF_b0 := Lib.hid f_b0
  go_enter Tryz.func7, Tryz.ntmps7
  go_wp2_with (first
    | (have hgo := Bw0; clear hgo
       go_at_call 9
       refine (newSigner_yes _ _ _ f_b0 HL.out).mono ?_
       rintro e w4 ⟨v_s8, rfl, g_s8, kk⟩
       replace f_b0 := zfb f_b0 kk
       have Bw1 := zbt HGS Bw0 kk
       clear Bw0 kk)
    | (have hgo := Bw1; clear hgo
       go_at_call 11
       refine (sgPublic_any _ _ _ g_s8).mono ?_
       rintro e w11 ⟨v_s12, rfl, o_s12, kk⟩
       replace o_s12 := Owns.lower o_s12 (HGS.out _ Bw1)
       replace f_b0 := zfb f_b0 kk
       replace g_s8 := g_s8.belowJ kk
       have Bw2 := zbt HGS Bw1 kk
       clear Bw1 kk
       have f_s12 := o_s12.bs))
  go_ret2
  exact ⟨_, rfl, o_s12, Bw2⟩
set_option maxHeartbeats 4000000 in
set_option maxRecDepth 10000 in
theorem sign_no (v0 : Value) (l0 : List UInt8) (v1 : Value) (w : World) (h0 : Bs w v0 l0) (hl : ¬ l0.length = 32) : Calls Tryz.prog 8 #[v0, v1] w fun e w' => e = .returned (.tuple #[.slice none 0 0, .int .i64 1]) ∧ Below w.heap.size w w' := by
  have HL := Lib.hid hl
  have f_b0 := h0
  clear h0 hl
  have Bw0 := Below.refl w.heap.size w
  have HGS : Hid (∀ wq : World, Below w.heap.size w wq → w.heap.size ≤ wq.heap.size) := Lib.hid fun wq h => h.size
  have HF_b0 := Lib.hid f_b0
  go_enter Tryz.func8, Tryz.ntmps8
  go_wp2_with (first
    | (have hgo := Bw0; clear hgo
       go_at_call 9
       refine (newSigner_no _ _ _ f_b0 HL.out).mono ?_
       rintro e w4 ⟨rfl, kk⟩
       replace f_b0 := zfb f_b0 kk
       have Bw1 := zbt HGS Bw0 kk
       clear Bw0 kk)
    | (have hgo := Bw1; clear hgo
       go_at_call 10
       refine (sgSign_nil _ _).mono ?_
       rintro e w12 ⟨rfl, kk⟩
       replace f_b0 := zfb f_b0 kk
       have Bw2 := zbt HGS Bw1 kk
       clear Bw1 kk))
  go_ret2
  exact ⟨rfl, Bw2⟩
set_option maxHeartbeats 4000000 in
set_option maxRecDepth 10000 in
theorem sign_yes (v0 : Value) (l0 : List UInt8) (v1 : Value) (L0 : List (List UInt8)) (w : World) (h0 : Bs w v0 l0) (hl : l0.length = 32) (h1 : Bss w v1 L0) (hn : 2 + L0.length ≤ 2147483647) (hlL : L0.flatten.length < 2 ^ 29) : Calls Tryz.prog 8 #[v0, v1] w fun e w' => ∃ v, e = .returned (.tuple #[v, .int .i64 0]) ∧ Owns w' w.heap.size v (edSig l0 L0.flatten) ∧ Below w.heap.size w w' := by
  have HL := Lib.hid hl
  have HLS := Lib.hid h1
  have HN := Lib.hid hn
  have HLL := Lib.hid hlL
  clear h1 hn hlL
  have f_b0 := h0
  clear h0 hl
  have Bw0 := Below.refl w.heap.size w
  have HGS : Hid (∀ wq : World, Below w.heap.size w wq → w.heap.size ≤ wq.heap.size) := Lib.hid fun wq h => h.size
  have HF_b0 := Lib.hid f_b0
  go_enter Tryz.func8, Tryz.ntmps8
  go_wp2_with (first
    | (have hgo := Bw0; clear hgo
       go_at_call 9
       refine (newSigner_yes _ _ _ f_b0 HL.out).mono ?_
       rintro e w4 ⟨v_s10, rfl, g_s10, kk⟩
       replace f_b0 := zfb f_b0 kk
       have Bw1 := zbt HGS Bw0 kk
       clear Bw0 kk)
    | (have hgo := Bw1; clear hgo
       go_at_call 10
       refine (sgSign_any _ _ _ _ _ g_s10 (HLS.out.below Bw1 (Nat.le_refl _)) HN.out HLL.out).mono ?_
       rintro e w12 ⟨v_s15, rfl, o_s15, kk⟩
       replace o_s15 := Owns.lower o_s15 (HGS.out _ Bw1)
       replace f_b0 := zfb f_b0 kk
       replace g_s10 := g_s10.belowJ kk
       have Bw2 := zbt HGS Bw1 kk
       clear Bw1 kk
       have f_s15 := o_s15.bs))
  go_ret2
  exact ⟨_, rfl, o_s15, Bw2⟩
end Go.Proofs.YtonhpmaiagbheaaGreat

/- Digits: flat.Hex, missiveref1.Hex. -/
set_option linter.unusedSimpArgs false
set_option linter.unusedVariables false
namespace Go.Proofs.YtonhpmaiagbheaaGreat
open Go.RowKit Go.Deep

end Go.Proofs.YtonhpmaiagbheaaGreat

/- Digits read: flat.digit, flat.Unhex, missiveref1.Unhex. -/
set_option linter.unusedSimpArgs false
set_option linter.unusedVariables false
namespace Go.Proofs.YtonhpmaiagbheaaGreat
open Go.RowKit Go.Deep

/-- The value of a small hex digit, -1 of any other byte. -/
def digVal (c : UInt8) : Int := if 48 ≤ c.toNat ∧ c.toNat ≤ 57 then (c.toNat : Int) - 48 else if 97 ≤ c.toNat ∧ c.toNat ≤ 102 then (c.toNat : Int) - 87 else -1

theorem digVal_ge (c : UInt8) : -1 ≤ digVal c ∧ digVal c ≤ 15 := by
  unfold digVal; split
  · omega
  · split <;> omega

/-- Byte i of a text's bytes. -/
def hiV (l : List UInt8) (i : Nat) : Int := digVal (l.getD (2 * i) 0)
def loV (l : List UInt8) (i : Nat) : Int := digVal (l.getD (2 * i + 1) 0)
/-- The pair i is one of digits. -/
def pairOk (l : List UInt8) (i : Nat) : Prop := 0 ≤ hiV l i ∧ 0 ≤ loV l i
def pairV (l : List UInt8) (i : Nat) : Nat := (16 * hiV l i + loV l i).toNat
/-- All of it is. -/
def hexOk (l : List UInt8) : Prop := l.length % 2 = 0 ∧ ∀ i, i < l.length / 2 → pairOk l i
def unhexB (l : List UInt8) : List UInt8 := (List.range (l.length / 2)).map fun i => UInt8.ofNat (pairV l i)
theorem pairV_lt (l : List UInt8) (i : Nat) : pairV l i < 256 := by
  have h1 := (digVal_ge (l.getD (2 * i) 0)).2
  have h2 := (digVal_ge (l.getD (2 * i + 1) 0)).2
  unfold pairV hiV loV; omega

/-- What Unhex answers. -/
def UnhexPost (w : World) (l : List UInt8) (e : Ending) (w' : World) : Prop :=
  Below w.heap.size w w' ∧ ((hexOk l ∧ ∃ v, e = .returned (.tuple #[v, .bool true]) ∧ Bs w' v (unhexB l)) ∨ (¬ hexOk l ∧ e = .returned (.tuple #[.slice none 0 0, .bool false])))

theorem str_getD (s : ByteArray) (i : Nat) (h : i < s.size) : s[i]'h = s.data.toList.getD i 0 := by
  have h2 : i < s.data.toList.length := by simpa using h
  rw [List.getD_eq_getElem?_getD, List.getElem?_eq_getElem h2]
  rfl

end Go.Proofs.YtonhpmaiagbheaaGreat

/- missiveref1.Unhex. -/
set_option linter.unusedSimpArgs false
set_option linter.unusedVariables false
namespace Go.Proofs.YtonhpmaiagbheaaGreat
open Go.RowKit Go.Deep

theorem digVal_num (c : UInt8) (h1 : 48 ≤ c.toNat) (h2 : c.toNat ≤ 57) : digVal c = (c.toNat : Int) - 48 := by unfold digVal; rw [if_pos ⟨h1, h2⟩]
theorem digVal_let (c : UInt8) (h1 : 97 ≤ c.toNat) (h2 : c.toNat ≤ 102) : digVal c = (c.toNat : Int) - 87 := by unfold digVal; rw [if_neg (by omega), if_pos ⟨h1, h2⟩]
theorem digVal_non (c : UInt8) (h1 : ¬ (48 ≤ c.toNat ∧ c.toNat ≤ 57)) (h2 : ¬ (97 ≤ c.toNat ∧ c.toNat ≤ 102)) : digVal c = -1 := by unfold digVal; rw [if_neg h1, if_neg h2]

/-- Where the inner loop stands. -/
def InnerAt (l : List UInt8) (j : Nat) (v k : Value) : Prop :=
  (k = .int .i64 0 ∧ v = .int .i64 0) ∨ (k = .int .i64 1 ∧ v = .int .i64 (hiV l j) ∧ 0 ≤ hiV l j) ∨ (k = .int .i64 2 ∧ v = .int .i64 (16 * hiV l j + loV l j) ∧ pairOk l j)

def unhexTo (l : List UInt8) (j : Nat) : List UInt8 := (List.range j).map fun i => UInt8.ofNat (pairV l i)
theorem unhexTo_succ (l : List UInt8) (j : Nat) : unhexTo l (j + 1) = unhexTo l j ++ [UInt8.ofNat (pairV l j)] := by
  unfold unhexTo; rw [List.range_succ, List.map_append]; rfl

set_option maxHeartbeats 3200000 in
theorem refUnhex_any (s : ByteArray) (w : World) (hlen : s.size ≤ 2147480000) :
    Calls Tryz.prog 18 #[.string s] w (UnhexPost w s.data.toList) := by
  have hsz : s.data.toList.length = s.size := by simp
  have HSZ := Lib.hid hsz
  clear hsz
  by_cases hodd : s.size % 2 = 0
  · obtain ⟨k, hk⟩ : ∃ k, s.size = 2 * k := ⟨s.size / 2, by omega⟩
    have htest : ((s.size : Int) % 2 != 0) = false := by simp; omega
    have hks : 2 * k ≤ s.size := by omega
    have hks2 : s.size ≤ 2 * k := by omega
    clear hk hodd
    go_enter Tryz.func18, Tryz.ntmps18
    go_wp2
    go_loopw [4, 5] (fun v i wr => ∃ j : Nat, j ≤ k ∧ i = .int .i64 (2 * (j : Int)) ∧ Owns wr w.heap.size v (unhexTo s.data.toList j) ∧ Below w.heap.size w wr ∧ Hid (∀ i, i < j → pairOk s.data.toList i)) (fun _ i _ => s.size - (intOf i).toNat)
    case atStart => exact ⟨0, Nat.zero_le _, rfl, Owns.nil _ _, Below.refl _ _, Lib.hid (fun i hi => absurd hi (by omega))⟩
    case round =>
      obtain ⟨j, hj, rfl, hown, hbel, HP⟩ := hrel
      by_cases hlt : j < k
      · have hjl : j < s.data.toList.length / 2 := by have := HSZ.out; omega
        have p1 : 2 * j < s.size := by omega
        have p2 : 2 * j + 1 < s.size := by omega
        have Hx : Hid (hiV s.data.toList j = digVal (s[2 * j]'p1)) := Lib.hid (by rw [str_getD s _ p1]; rfl)
        have Hy : Hid (loV s.data.toList j = digVal (s[2 * j + 1]'p2)) := Lib.hid (by rw [str_getD s _ p2]; rfl)
        have hlt' : 2 * (j : Int) < (s.size : Int) := by omega
        obtain ⟨wo, rfl⟩ : ∃ wo : World, wo = wr := ⟨_, rfl⟩
        go_wp2
        go_loop [6, 7] (fun v k => InnerAt s.data.toList j v k) (fun _ k => 2 - (intOf k).toNat)
        case atStart => exact .inl ⟨rfl, rfl⟩
        case round =>
          rcases hrel with ⟨rfl, rfl⟩ | ⟨rfl, rfl, hx0⟩ | ⟨rfl, rfl, hok⟩
          · have cn := digVal_num (s[2 * j]'p1)
            have cl := digVal_let (s[2 * j]'p1)
            have cx := digVal_non (s[2 * j]'p1)
            have cb := UInt8.toNat_lt (s[2 * j]'p1)
            rw [← Hx.out] at cn cl cx
            have CC := Lib.hid (And.intro cn (And.intro cl cx))
            clear cn cl cx Hx Hy
            have hi1 : 0 ≤ 2 * (j : Int) ∧ 2 * (j : Int) < (s.size : Int) := by omega
            generalize hc : s[2 * j]'p1 = c at *
            by_cases hn : 48 ≤ c.toNat ∧ c.toNat ≤ 57
            · have n1 : (48 : Int) ≤ (c.toNat : Int) := by omega
              have n2 : (c.toNat : Int) ≤ 57 := by omega
              go_wp2
              go_round
              case rel => exact .inr (.inl ⟨by go_num, by rw [CC.out.1 hn.1 hn.2], by rw [CC.out.1 hn.1 hn.2]; omega⟩)
              case measure => simp [intOf]
            · by_cases hl : 97 ≤ c.toNat ∧ c.toNat ≤ 102
              · have n1 : (97 : Int) ≤ (c.toNat : Int) := by omega
                have n2 : (c.toNat : Int) ≤ 102 := by omega
                go_wp2
                go_round
                case rel => exact .inr (.inl ⟨by go_num, by rw [CC.out.2.1 hl.1 hl.2]; go_num, by rw [CC.out.2.1 hl.1 hl.2]; omega⟩)
                case measure => simp [intOf]
              · have hbad : Hid (¬ hexOk s.data.toList) := Lib.hid (fun h => by have := (h.2 j hjl).1; rw [CC.out.2.2 hn hl] at this; omega)
                by_cases m1 : c.toNat < 48
                · have n1 : ¬ (48 : Int) ≤ (c.toNat : Int) := by omega
                  have n2 : ¬ (97 : Int) ≤ (c.toNat : Int) := by omega
                  go_wp2
                  go_ret2
                  exact ⟨hbel, .inr ⟨hbad.out, rfl⟩⟩
                · by_cases m2 : c.toNat < 97
                  · have n0 : (48 : Int) ≤ (c.toNat : Int) := by omega
                    have n1 : ¬ (c.toNat : Int) ≤ 57 := by omega
                    have n2 : ¬ (97 : Int) ≤ (c.toNat : Int) := by omega
                    go_wp2
                    go_ret2
                    exact ⟨hbel, .inr ⟨hbad.out, rfl⟩⟩
                  · have n0 : (48 : Int) ≤ (c.toNat : Int) := by omega
                    have n1 : ¬ (c.toNat : Int) ≤ 57 := by omega
                    have n2 : (97 : Int) ≤ (c.toNat : Int) := by omega
                    have n3 : ¬ (c.toNat : Int) ≤ 102 := by omega
                    go_wp2
                    go_ret2
                    exact ⟨hbel, .inr ⟨hbad.out, rfl⟩⟩
          · have cn := digVal_num (s[2 * j + 1]'p2)
            have cl := digVal_let (s[2 * j + 1]'p2)
            have cx := digVal_non (s[2 * j + 1]'p2)
            have cb := UInt8.toNat_lt (s[2 * j + 1]'p2)
            rw [← Hy.out] at cn cl cx
            have CC := Lib.hid (And.intro cn (And.intro cl cx))
            clear cn cl cx Hx Hy
            have hi1 : 0 ≤ 2 * (j : Int) + 1 ∧ 2 * (j : Int) + 1 < (s.size : Int) := by omega
            have hx1 := (digVal_ge (s.data.toList.getD (2 * j) 0)).2
            have HH : Hid (hiV s.data.toList j = digVal (s.data.toList.getD (2 * j) 0)) := Lib.hid rfl
            rw [← HH.out] at hx1
            generalize hxx : hiV s.data.toList j = x at *
            have HXX := Lib.hid hxx
            generalize hc : s[2 * j + 1]'p2 = c at *
            clear hxx HH
            by_cases hn : 48 ≤ c.toNat ∧ c.toNat ≤ 57
            · have n1 : (48 : Int) ≤ (c.toNat : Int) := by omega
              have n2 : (c.toNat : Int) ≤ 57 := by omega
              go_wp2
              go_round
              case rel => exact .inr (.inr ⟨by go_num, by rw [HXX.out, CC.out.1 hn.1 hn.2], by rw [HXX.out]; exact hx0, by rw [CC.out.1 hn.1 hn.2]; omega⟩)
              case measure => simp [intOf]
            · by_cases hl : 97 ≤ c.toNat ∧ c.toNat ≤ 102
              · have n1 : (97 : Int) ≤ (c.toNat : Int) := by omega
                have n2 : (c.toNat : Int) ≤ 102 := by omega
                go_wp2
                go_round
                case rel => exact .inr (.inr ⟨by go_num, by rw [HXX.out, CC.out.2.1 hl.1 hl.2]; go_num, by rw [HXX.out]; exact hx0, by rw [CC.out.2.1 hl.1 hl.2]; omega⟩)
                case measure => simp [intOf]
              · have hbad : Hid (¬ hexOk s.data.toList) := Lib.hid (fun h => by have := (h.2 j hjl).2; rw [CC.out.2.2 hn hl] at this; omega)
                by_cases m1 : c.toNat < 48
                · have n1 : ¬ (48 : Int) ≤ (c.toNat : Int) := by omega
                  have n2 : ¬ (97 : Int) ≤ (c.toNat : Int) := by omega
                  go_wp2
                  go_ret2
                  exact ⟨hbel, .inr ⟨hbad.out, rfl⟩⟩
                · by_cases m2 : c.toNat < 97
                  · have n0 : (48 : Int) ≤ (c.toNat : Int) := by omega
                    have n1 : ¬ (c.toNat : Int) ≤ 57 := by omega
                    have n2 : ¬ (97 : Int) ≤ (c.toNat : Int) := by omega
                    go_wp2
                    go_ret2
                    exact ⟨hbel, .inr ⟨hbad.out, rfl⟩⟩
                  · have n0 : (48 : Int) ≤ (c.toNat : Int) := by omega
                    have n1 : ¬ (c.toNat : Int) ≤ 57 := by omega
                    have n2 : (97 : Int) ≤ (c.toNat : Int) := by omega
                    have n3 : ¬ (c.toNat : Int) ≤ 102 := by omega
                    go_wp2
                    go_ret2
                    exact ⟨hbel, .inr ⟨hbad.out, rfl⟩⟩
          · have hv : 0 ≤ 16 * hiV s.data.toList j + loV s.data.toList j := by have := hok.1; have := hok.2; omega
            have hv2 := pairV_lt s.data.toList j
            have HV : Hid (16 * hiV s.data.toList j + loV s.data.toList j = ((pairV s.data.toList j : Nat) : Int)) := Lib.hid (by unfold pairV; omega)
            have hP' : Hid (∀ i, i < j + 1 → pairOk s.data.toList i) := Lib.hid fun i hi => (by rcases (show i < j ∨ i = j by omega) with h | rfl; exact HP.out i h; exact hok)
            rw [HV.out]
            have HS := Lib.hid (unhexTo_succ s.data.toList j)
            have HB : Hid (((UInt8.ofNat (pairV s.data.toList j)).toNat : Int) = ((pairV s.data.toList j : Nat) : Int)) := Lib.hid (by rw [UInt8.toNat_ofNat_of_lt' (show _ < 256 from hv2)])
            generalize pairV s.data.toList j = p at *
            clear hv HV hok Hx Hy HP
            have hone : Bs (wo.alloc (.cells #[.int .u8 ((p : Nat) : Int)] 5)) (.slice (some ⟨wo.heap.size, 0, none⟩) 1 1) [UInt8.ofNat p] := by rw [← HB.out]; exact Bs.one wo _
            have hO := Owns.alloc hown (.cells #[.int .u8 ((p : Nat) : Int)] 5)
            have HO := Lib.hid (And.intro hO hone)
            have hlenj : (unhexTo s.data.toList j).length = j := by simp [unhexTo]
            have HL := Lib.hid hlenj
            clear hO hone hlenj HB
            go_wp2_with (refine wpList_app rfl _ _ rfl w.heap.size _ _ _ _ HO.out.1 HO.out.2 rfl rfl (by rw [HL.out]; simp; omega) (by have := hbel.size; simp; omega) ?_; intro v2 w2 hown2 hgrow2)
            rw [← HS.out] at hown2
            have hbel3 : Below w.heap.size w w2 := (hbel.alloc hbel.size _).grown hgrow2 (by have := hbel.size; simp; omega) (Owns.block HO.out.1)
            clear hgrow2 HO hown hbel
            go_wp2
            go_roundw
            case rel => exact ⟨j + 1, by omega, by go_num, hown2, hbel3, hP'⟩
            case measure => simp [intOf]; omega
      · obtain rfl : j = k := by omega
        have hout : ¬ 2 * (j : Int) < (s.size : Int) := by omega
        have hrange : Hid (unhexB s.data.toList = unhexTo s.data.toList j) := Lib.hid (by unfold unhexB unhexTo; rw [HSZ.out, show s.size / 2 = j by omega])
        go_wp2
        go_ret2
        exact ⟨hbel, .inl ⟨⟨by rw [HSZ.out]; omega, fun i hi => HP.out i (by rw [HSZ.out] at hi; omega)⟩, _, rfl, by rw [hrange.out]; exact hown.bs⟩⟩
  · have htest : ((s.size : Int) % 2 != 0) = true := by simp; omega
    go_enter Tryz.func18, Tryz.ntmps18
    go_wp2
    go_ret2
    refine ⟨Below.refl _ _, .inr ⟨fun h => hodd ?_, rfl⟩⟩
    have := h.1
    rw [HSZ.out] at this
    exact this
end Go.Proofs.YtonhpmaiagbheaaGreat

/- The sums of "abc", by the kernel. -/
set_option linter.unusedSimpArgs false
set_option linter.unusedVariables false
namespace Go.Proofs.YtonhpmaiagbheaaGreat
open Go.RowKit Go.Deep

section
variable {n : Nat} (k : Kind n)
/-- The words of a block, the last first. -/
def Kind.evL (b : Nat → BitVec n) : Nat → List (BitVec n)
  | 0 => []
  | i + 1 => (if i < 16 then b i else k.low1 ((Kind.evL b i).getD 1 0) + (Kind.evL b i).getD 6 0 + k.low0 ((Kind.evL b i).getD 14 0) + (Kind.evL b i).getD 15 0) :: Kind.evL b i
theorem Kind.evL_get (b : Nat → BitVec n) : ∀ i t, t < i → (k.evL b i).getD (i - 1 - t) 0 = k.sched b t
  | 0, t, h => by omega
  | i + 1, t, h => by
    by_cases e : t = i
    · subst e
      rw [show t + 1 - 1 - t = 0 by omega, Kind.evL, List.getD_cons_zero]
      by_cases h16 : t < 16
      · rw [if_pos h16, Kind.sched_low _ _ _ h16]
      · rw [if_neg h16, Kind.sched_high _ _ _ (by omega), ← Kind.evL_get b t (t - 2) (by omega), ← Kind.evL_get b t (t - 7) (by omega), ← Kind.evL_get b t (t - 15) (by omega), ← Kind.evL_get b t (t - 16) (by omega)]
        rw [show t - 1 - (t - 2) = 1 by omega, show t - 1 - (t - 7) = 6 by omega, show t - 1 - (t - 15) = 14 by omega, show t - 1 - (t - 16) = 15 by omega]
    · rw [show i + 1 - 1 - t = (i - 1 - t) + 1 by omega, Kind.evL, List.getD_cons_succ]
      exact Kind.evL_get b i t (by omega)
theorem Kind.rnd_congr {W W' : Nat → BitVec n} (s : S8 n) : ∀ t, (∀ j, j < t → W j = W' j) → k.rnd W s t = k.rnd W' s t
  | 0, _ => rfl
  | t + 1, h => by rw [Kind.rnd, Kind.rnd, Kind.rnd_congr s t (fun j hj => h j (by omega)), h t (by omega)]
theorem Kind.press_ev (s : S8 n) (blk : List UInt8) : k.press s blk = S8.add s (k.rnd (fun t => (k.evL (k.word blk) k.rounds).getD (k.rounds - 1 - t) 0) s k.rounds) := by
  unfold Kind.press
  congr 1
  exact k.rnd_congr s _ fun j hj => (k.evL_get _ _ _ hj).symm
theorem Kind.sum_one (m : List UInt8) (h : (k.pad m).length / k.block = 1) : k.sum m = k.out (S8.add k.first (k.rnd (fun t => (k.evL (k.word (((k.pad m).drop (k.block * 0)).take k.block)) k.rounds).getD (k.rounds - 1 - t) 0) k.first k.rounds)) 8 := by
  unfold Kind.sum
  rw [h]
  show k.out (k.press k.first _) 8 = _
  rw [k.press_ev]
end
end Go.Proofs.YtonhpmaiagbheaaGreat

/- What the laws of chapter 9 share: the first public key, awake. -/
namespace Go.Proofs.YtonhpmaiagbheaaGreat
open Go.RowKit Go.Deep
set_option linter.unusedSimpArgs false
set_option linter.unusedVariables false

def kS : List UInt8 := [157, 97, 177, 157, 239, 253, 90, 96, 186, 132, 74, 244, 146, 236, 44, 196, 68, 73, 197, 105, 123, 50, 105, 25, 112, 59, 172, 3, 28, 174, 127, 96]
def hS : List UInt8 := [53, 124, 131, 134, 79, 40, 51, 203, 66, 122, 46, 241, 192, 10, 1, 60, 253, 255, 39, 104, 217, 128, 192, 163, 165, 32, 240, 6, 144, 77, 233, 15]
theorem sum_kS : (k512.sum kS).take 32 = hS := by
  rw [Kind.sum_one k512 kS (by kernel_rfl)]
  kernel_rfl
theorem clamp_hS : clampN hS < 2 * top := by decide +kernel
theorem edA_of (s l : List UInt8) (h : (k512.sum s).take 32 = l) (hc : clampN l < 2 * top) : edA s = clampN l % ordL := by
  unfold edA
  rw [h, wide_32 _ (litB_length _ _), numL_lit _ hc]
theorem edA_kS1 : edA kS = clampN hS % ordL := edA_of kS hS sum_kS clamp_hS
theorem edA_kS2 : clampN hS % ordL = 7196903412274038802701538263280187907152860435200743670699908441353638128764 := by decide +kernel
theorem edA_kS : edA kS = 7196903412274038802701538263280187907152860435200743670699908441353638128764 := edA_kS1.trans edA_kS2
theorem invP_pw9 (a : Nat) : invP a = pw p25 255 a (p25 - 2) := (pw_eq p25 255 a (p25 - 2) (by decide +kernel)).symm
theorem dP_lit9 : dP = 37095705934669439343138083508754565189542113879843219016388785533085940283555 := by
  unfold dP
  rw [invP_pw9]
  decide +kernel
def dLit : Nat := 37095705934669439343138083508754565189542113879843219016388785533085940283555
/-- A point's form, reckoned by the kernel. -/
def encW (a : Nat × Nat × Nat) : Nat := mulP a.2.1 (pw p25 255 a.2.2 (p25 - 2)) + mulP a.1 (pw p25 255 a.2.2 (p25 - 2)) % 2 * top
theorem encA_w (a : Nat × Nat × Nat) : encA a = encW a := by
  unfold encA encW
  rw [invP_pw9]
theorem pub_of (s : List UInt8) (A : Nat) (h : edA s = A) : edPub s = litB (encW (pmul dLit bT A)) 32 := by
  unfold edPub
  rw [h, encA_w, show dP = dLit from dP_lit9]
theorem pub_w : edPub kS = litB (encW (pmul dLit bT 7196903412274038802701538263280187907152860435200743670699908441353638128764)) 32 := pub_of kS _ edA_kS
theorem pub_w4 : (litB (encW (pmul dLit bT 7196903412274038802701538263280187907152860435200743670699908441353638128764)) 32).take 4 = [215, 90, 152, 1] := by decide +kernel
theorem pub_four : (edPub kS).take 4 = [215, 90, 152, 1] := by
  have h := pub_w4
  rwa [← pub_w] at h
theorem unhex_lit9 (s : ByteArray) (l : List UInt8) (w : World) (hs : s.size ≤ 2147480000) (hok : hexOk s.data.toList) (hl : unhexB s.data.toList = l) :
    Calls Tryz.prog 18 #[.string s] w fun e w' => ∃ v, e = .returned (.tuple #[v, .bool true]) ∧ Bs w' v l ∧ Below w.heap.size w w' :=
  (refUnhex_any s w hs).mono fun e w' h => by
    obtain ⟨hb, h | h⟩ := h
    · obtain ⟨_, v, h1, h2⟩ := h
      rw [hl] at h2
      exact ⟨v, h1, h2, hb⟩
    · exact absurd hok h.1
theorem hexOk_of9 (l : List UInt8) (h : (l.length % 2 == 0 && (List.range (l.length / 2)).all fun i => decide (0 ≤ hiV l i) && decide (0 ≤ loV l i)) = true) : hexOk l := by
  simp only [Bool.and_eq_true, beq_iff_eq, List.all_eq_true, List.mem_range, decide_eq_true_eq] at h
  exact ⟨h.1, fun i hi => h.2 i hi⟩
theorem unhex_kS (w : World) : Calls Tryz.prog 18 #[.string ⟨#[57, 100, 54, 49, 98, 49, 57, 100, 101, 102, 102, 100, 53, 97, 54, 48, 98, 97, 56, 52, 52, 97, 102, 52, 57, 50, 101, 99, 50, 99, 99, 52, 52, 52, 52, 57, 99, 53, 54, 57, 55, 98, 51, 50, 54, 57, 49, 57, 55, 48, 51, 98, 97, 99, 48, 51, 49, 99, 97, 101, 55, 102, 54, 48]⟩] w fun e w' => ∃ v, e = .returned (.tuple #[v, .bool true]) ∧ Bs w' v kS ∧ Below w.heap.size w w' :=
  unhex_lit9 _ _ w (by decide +kernel) (hexOk_of9 _ (by decide +kernel)) (by decide +kernel)
set_option maxHeartbeats 4000000 in
set_option maxRecDepth 10000 in
theorem awake9_any (w : World) : Calls Tryz.prog 6 #[] w fun e w' => e = .returned (.bool true) ∧ Below w.heap.size w w' := by
  have HPL := Lib.hid (edPub_length kS)
  have HP4 := Lib.hid pub_four
  have HPY := Lib.hid fun v w h => public_yes v kS w h (by decide)
  have HSN := Lib.hid fun w => sign_no (.slice none 0 0) [] (.slice none 0 0) w (Bs.nil w) (by decide)
  obtain ⟨pb, hpb⟩ : ∃ l, l = edPub kS := ⟨_, rfl⟩
  rw [← hpb] at HPL HP4 HPY
  clear hpb
  have Bw0 := Below.refl w.heap.size w
  have HGS : Hid (∀ wq : World, Below w.heap.size w wq → w.heap.size ≤ wq.heap.size) := Lib.hid fun wq h => h.size
  go_enter Tryz.func6, Tryz.ntmps6
  go_wp2_with (first
    | (have hgo := Bw0; clear hgo
       go_at_call 18
       refine (unhex_kS _).mono ?_
       rintro e w2 ⟨v_s8, rfl, f_s8, kk⟩
       have Bw1 := zbt HGS Bw0 kk
       clear Bw0 kk)
    | (have hgo := Bw1; clear hgo
       go_at_call 7
       refine (HPY.out _ _ f_s8).mono ?_
       rintro e w9 ⟨v_s13, rfl, o_s13, kk⟩
       replace f_s8 := zfb f_s8 kk
       have Bw2 := zbt HGS Bw1 kk
       clear Bw1 kk
       have f_s13 := o_s13.bs
       clear o_s13)
    | (have hgo := Bw2; clear hgo
       go_at_call 8
       refine (HSN.out _).mono ?_
       rintro e w15 ⟨rfl, kk⟩
       replace f_s8 := zfb f_s8 kk
       replace f_s13 := zfb f_s13 kk
       have Bw3 := zbt HGS Bw2 kk
       clear Bw2 kk
       obtain ⟨ad, n, c, rfl, e3, y3, z3, h3b⟩ := f_s13.shape
       have hn : n = 32 := by rw [← e3]; exact HPL.out
       subst hn
       have h5 := (Bs.take h3b (k := 4) (by omega)).conv
       rw [HP4.out] at h5
       clear f_s8 f_s13 h3b e3))
  go_ret
  exact ⟨rfl, Bw3⟩
end Go.Proofs.YtonhpmaiagbheaaGreat

/- What was signed is verified; of another S it is not. -/
namespace Go.Proofs.YtonhpmaiagbheaaGreat
open Go.RowKit Go.Deep
set_option linter.unusedSimpArgs false
set_option linter.unusedVariables false

end Go.Proofs.YtonhpmaiagbheaaGreat

/- missivealike.Sum, missivealike.All: how many bytes rows have, held. -/
set_option linter.unusedSimpArgs false
set_option linter.unusedVariables false
namespace Go.Proofs.YtonhpmaiagbheaaGreat
open Go.RowKit Go.Deep

/-- The slice value v reads as the ints xs, none of which is negative. -/
def Ns (w : World) (v : Value) (xs : List Nat) : Prop :=
  ∃ (b off cap : Nat), v = .slice (some ⟨b, off, none⟩) xs.length cap ∧ b < w.heap.size ∧ ∀ i (h : i < xs.length), w.cell? ⟨b, off + i, none⟩ = some (.int .i64 (xs[i] : Int))

theorem Ns.two (w : World) (x y : Nat) : Ns (w.alloc (.cells #[.int .i64 (x : Int), .int .i64 (y : Int)] 3)) (.slice (some ⟨w.heap.size, 0, none⟩) 2 2) [x, y] := by
  refine ⟨_, _, _, rfl, by simp, fun i hi => ?_⟩
  match i, hi with
  | 0, _ => exact World.cell?_alloc_mark w _ 3 (0, 0) 0
  | 1, _ => exact World.cell?_alloc_mark w _ 3 (0, 0) 1

def sumTo (xs : List Nat) (j : Nat) : Nat := (xs.take j).sum
theorem sumTo_succ (xs : List Nat) (j : Nat) (h : j < xs.length) : sumTo xs (j + 1) = sumTo xs j + xs[j] := by
  unfold sumTo
  rw [List.take_succ_eq_append_getElem h, List.sum_append]
  simp only [List.sum_cons, List.sum_nil, Nat.add_zero]

set_option maxHeartbeats 800000 in
theorem sum_any (n : Nat) (v : Value) (xs : List Nat) (w : World) (hv : Ns w v xs) (hn : n ≤ 1099511627776) (hxs : ∀ x ∈ xs, x ≤ 9223372036854775807) (hlen : xs.length ≤ 1000000) :
    Calls Tryz.prog 17 #[.int .i64 n, v] w fun e w' => ∃ s : Nat, e = .returned (.int .i64 s) ∧ s ≤ 1099511627776 ∧ (s < 1099511627776 → s = n + xs.sum) ∧ w' = w := by
  obtain ⟨b, off, cap, rfl, _, hc⟩ := hv
  have HC := Lib.hid hc
  have HX := Lib.hid hxs
  have hlen2 : (xs.length : Int) ≤ 1000000 := by omega
  have hall : sumTo xs xs.length = xs.sum := by unfold sumTo; rw [List.take_length]
  have HALL := Lib.hid hall
  clear hc hxs hall
  go_enter Tryz.func17, Tryz.ntmps17
  go_wp2
  go_loop [0, 5] (fun s i => ∃ (j m : Nat), j ≤ xs.length ∧ i = .int .i64 j ∧ s = .int .i64 m ∧ m ≤ 1099511627776 ∧ Hid (m = n + sumTo xs j)) (fun _ i => xs.length - (intOf i).toNat)
  case atStart => exact ⟨0, n, Nat.zero_le _, rfl, rfl, hn, Lib.hid (by simp [sumTo])⟩
  case round =>
    obtain ⟨j, m, hj, rfl, rfl, hm, HM⟩ := hrel
    by_cases hlt : j < xs.length
    · have hcj := HC.out j hlt
      have hxj := HX.out xs[j] (List.getElem_mem _)
      have HS := Lib.hid (sumTo_succ xs j hlt)
      have hm0 : ¬ (1099511627776 : Int) < (m : Int) := by omega
      have hi1 : 0 ≤ (j : Int) ∧ (j : Int) < (xs.length : Int) := by omega
      generalize xs[j] = x at *
      by_cases hbig : 1099511627776 - (m : Int) < (x : Int)
      · go_wp2
        go_ret
        exact ⟨1099511627776, rfl, Nat.le_refl _, fun h => absurd h (by omega), rfl⟩
      · go_wp2
        go_round
        case rel => exact ⟨j + 1, m + x, by omega, by go_num, by go_num, by omega, Lib.hid (by rw [HS.out, HM.out]; omega)⟩
        case measure => simp [intOf]; omega
    · obtain rfl : j = xs.length := by omega
      go_wp2
      go_ret
      exact ⟨m, rfl, hm, fun _ => by rw [HM.out, HALL.out], rfl⟩

set_option maxHeartbeats 800000 in
theorem all_any (v : Value) (L : List (List UInt8)) (top : Nat) (w : World) (hv : Bss w v L) (ht : top < 1099511627776) :
    Calls Tryz.prog 5 #[v, .int .i64 top] w fun e w' => ∃ s : Nat, e = .returned (.int .i64 s) ∧ s ≤ 1099511627776 ∧ (s ≤ top → L.flatten.length + L.length ≤ top) ∧ Below w.heap.size w w' := by
  have HV := Lib.hid hv
  obtain ⟨a, cap, rfl, h1, h2, h3, h4⟩ := hv
  clear h3 h4
  unfold maxLen at h2
  have HALL := Lib.hid (catTo_all L L.length (Nat.le_refl _))
  generalize hn : L.length = n at *
  have HN := Lib.hid hn
  clear hn
  go_enter Tryz.func5, Tryz.ntmps5
  go_wp2
  go_loopw [5, 6] (fun s i wr => ∃ (j m : Nat), j ≤ n ∧ i = .int .i64 j ∧ s = .int .i64 m ∧ m ≤ 1099511627776 ∧ Hid (m ≤ top → m = (catTo L j).length + j) ∧ Below w.heap.size w wr) (fun _ i _ => n - (intOf i).toNat)
  case atStart => exact ⟨0, 0, Nat.zero_le _, rfl, rfl, by omega, Lib.hid (by simp [catTo]), Below.refl _ _⟩
  case round =>
    obtain ⟨j, m, hj, rfl, rfl, hm, HM, hbel⟩ := hrel
    by_cases hlt : j < n
    · by_cases hmt : m ≤ top
      · have hjl : j < L.length := by rw [HN.out]; exact hlt
        have HS := Lib.hid (catTo_succ L j hjl)
        obtain ⟨b, off, cap', he, _, _, hbl, hc⟩ := HV.out.open_cons (by rw [HN.out]; omega)
        rw [HN.out] at he
        cases he
        obtain ⟨u, hcj, hu⟩ := hc j hjl
        clear hc
        have hcr : wr.cell? ⟨b, off + j, none⟩ = some u := (hbel.cell (by exact hbl)).trans hcj
        obtain ⟨au, x, cu, rfl, hx, hx1, hx2, _⟩ := hu.shape
        have HXL := Lib.hid hx
        clear hx hu hcj
        have hi1 : 0 ≤ (j : Int) ∧ (j : Int) < (n : Int) := by omega
        have hN := Ns.two wr x 1
        have hx3 : ∀ y ∈ [x, 1], y ≤ 9223372036854775807 := by intro y hy; simp at hy; omega
        have HX3 := Lib.hid hx3
        clear hx3
        go_wp2_with fail
        refine (sum_any m _ [x, 1] _ hN hm HX3.out (by simp)).mono ?_
        rintro e w2 ⟨s, rfl, hs1, hs2, rfl⟩
        have HS2 := Lib.hid hs2
        clear hs2 hN
        go_wp2
        go_roundw
        case rel =>
          refine ⟨j + 1, s, by omega, by go_num, rfl, hs1, Lib.hid fun h => ?_, hbel.alloc hbel.size _⟩
          rw [HS.out, List.length_append, HXL.out, HS2.out (by omega), HM.out hmt]
          simp only [List.sum_cons, List.sum_nil]
          omega
        case measure => simp [intOf]; omega
      · go_wp2
        go_ret
        exact ⟨m, rfl, hm, fun h => absurd h hmt, hbel⟩
    · obtain rfl : j = n := by omega
      go_wp2
      go_ret
      refine ⟨m, rfl, hm, fun h => ?_, hbel⟩
      have := HM.out h
      rw [HALL.out] at this
      omega
end Go.Proofs.YtonhpmaiagbheaaGreat

/- missivealike.Cat; All and Round by their texts. -/
set_option linter.unusedSimpArgs false
set_option linter.unusedVariables false
namespace Go.Proofs.YtonhpmaiagbheaaGreat
open Go.RowKit Go.Deep

set_option maxHeartbeats 800000 in
theorem alikeCat_any (v : Value) (L : List (List UInt8)) (w : World) (hv : Bss w v L) (hlen : L.flatten.length ≤ 2147483647) :
    Calls Tryz.prog 14 #[v] w fun e w' => ∃ v', e = .returned v' ∧ Owns w' w.heap.size v' L.flatten ∧ Below w.heap.size w w' := by
  have HV := Lib.hid hv
  obtain ⟨a, cap, rfl, h1, h2, h3, h4⟩ := hv
  clear h3 h4
  unfold maxLen at h2
  go_enter Tryz.func14, Tryz.ntmps14
  go_wp2
  generalize hn : L.flatten.length = n at *
  have HN := Lib.hid hn
  clear hn
  go_loopw [3, 4] (fun v i wr => ∃ j : Nat, j ≤ L.length ∧ i = .int .i64 j ∧ Owns wr w.heap.size v (catTo L j) ∧ Below w.heap.size w wr) (fun _ i _ => L.length - (intOf i).toNat)
  case atStart => exact ⟨0, Nat.zero_le _, rfl, Owns.nil _ _, Below.refl _ _⟩
  case round =>
    obtain ⟨j, hj, rfl, hown, hbel⟩ := hrel
    by_cases hlt : j < L.length
    · have hsum : (catTo L j).length + L[j].length ≤ n := by
        have := catTo_le L (j + 1)
        rw [catTo_succ L j hlt, List.length_append] at this
        have := HN.out
        omega
      obtain ⟨b, off, cap', he, _, _, hbl, hc⟩ := HV.out.open_cons (by omega)
      cases he
      obtain ⟨u, hcj, hu⟩ := hc j hlt
      clear hc
      have hcr : wr.cell? ⟨b, off + j, none⟩ = some u := (hbel.cell (by exact hbl)).trans hcj
      have hur : Bs wr u L[j] := hu.below hbel (Nat.le_refl _)
      have HU := Lib.hid hur
      obtain ⟨au, cu, rfl, _, _, _, _⟩ := hu
      clear hur
      go_wp2_with (refine wpList_app rfl _ _ rfl w.heap.size _ _ (catTo L j) L[j] hown HU.out rfl rfl (by omega) (by have := hbel.size; omega) ?_; intro v2 w2 hown2 hgrow2)
      have hown3 : Owns w2 w.heap.size v2 (catTo L (j + 1)) := by rw [catTo_succ L j hlt]; exact hown2
      have hbel3 : Below w.heap.size w w2 := hbel.grown hgrow2 hbel.size (Owns.block hown)
      clear hown2 hgrow2 hown hbel hcr HU hsum
      go_wp2
      go_roundw
      case rel => exact ⟨j + 1, by omega, by go_num, hown3, hbel3⟩
      case measure => simp [intOf]; omega
    · obtain rfl : j = L.length := by omega
      go_wp2
      go_ret
      exact ⟨_, rfl, by rw [← catTo_all L L.length (Nat.le_refl _)]; exact hown, hbel⟩

end Go.Proofs.YtonhpmaiagbheaaGreat

/- Contracts for the laws of chapter 9. -/
namespace Go.Proofs.YtonhpmaiagbheaaGreat
open Go.RowKit Go.Deep
set_option linter.unusedSimpArgs false
set_option linter.unusedVariables false

theorem SgAt.ptr {w : World} {v : Value} {s : List UInt8} (h : SgAt w v s) : ∃ b, v = .pointer (some ⟨b, 0, none⟩) := by
  obtain ⟨b, _, _, _, h, _⟩ := h
  exact ⟨b, h⟩
theorem public_to (v0 : Value) (l0 : List UInt8) (p : List UInt8) (w : World) (h0 : Bs w v0 l0) (hl : l0.length = 32) (hp : edPub l0 = p) : Calls Tryz.prog 7 #[v0] w fun e w' => ∃ v, e = .returned (.tuple #[v, .int .i64 0]) ∧ Owns w' w.heap.size v p ∧ Below w.heap.size w w' := by
  subst hp
  exact public_yes v0 l0 w h0 hl
theorem sign_to (v0 : Value) (l0 : List UInt8) (v1 : Value) (L0 : List (List UInt8)) (t s : List UInt8) (w : World) (h0 : Bs w v0 l0) (hl : l0.length = 32) (h1 : Bss w v1 L0) (ht : L0.flatten = t) (hn : 2 + L0.length ≤ 2147483647) (hlL : t.length < 2 ^ 29) (hs : edSig l0 t = s) : Calls Tryz.prog 8 #[v0, v1] w fun e w' => ∃ v, e = .returned (.tuple #[v, .int .i64 0]) ∧ Owns w' w.heap.size v s ∧ Below w.heap.size w w' := by
  subst ht hs
  exact sign_yes v0 l0 v1 L0 w h0 hl h1 hn hlL
theorem sgSign_to (v0 v1 : Value) (s0 : List UInt8) (L0 : List (List UInt8)) (t s : List UInt8) (w : World) (hs : SgAt w v0 s0) (h1 : Bss w v1 L0) (ht : L0.flatten = t) (hn : 2 + L0.length ≤ 2147483647) (hl : t.length < 2 ^ 29) (hs2 : edSig s0 t = s) : Calls Tryz.prog 10 #[v0, v1] w fun e w' => ∃ v', e = .returned v' ∧ Owns w' w.heap.size v' s ∧ Below w.heap.size w w' := by
  subst ht hs2
  exact sgSign_any v0 v1 s0 L0 w hs h1 hn hl
theorem sgPublic_to (v0 : Value) (s0 p : List UInt8) (w : World) (hs : SgAt w v0 s0) (hp : edPub s0 = p) : Calls Tryz.prog 11 #[v0] w fun e w' => ∃ v', e = .returned v' ∧ Owns w' w.heap.size v' p ∧ Below w.heap.size w w' := by
  subst hp
  exact sgPublic_any v0 s0 w hs
theorem alikeCat_to (v : Value) (L : List (List UInt8)) (t : List UInt8) (w : World) (hv : Bss w v L) (ht : L.flatten = t) (hlen : t.length ≤ 2147483647) : Calls Tryz.prog 14 #[v] w fun e w' => ∃ v', e = .returned v' ∧ Owns w' w.heap.size v' t ∧ Below w.heap.size w w' := by
  subst ht
  exact alikeCat_any v L w hv hlen
end Go.Proofs.YtonhpmaiagbheaaGreat

/- What the document's sums need: a slice with both bounds, words out of a slice, sums of words. -/
set_option linter.unusedSimpArgs false
set_option linter.unusedVariables false
namespace Go.Proofs.YtonhpmaiagbheaaGreat
open Go.RowKit Go.Deep

theorem numB_ext (l l' : List UInt8) : ∀ k, (∀ i, i < k → l.getD i 0 = l'.getD i 0) → numB l k = numB l' k
  | 0, _ => rfl
  | k + 1, h => by
    rw [numB, numB, numB_ext l l' k (fun i hi => h i (by omega))]
    unfold byteAt
    rw [h k (by omega)]
/-- A word of a block, cut out of the whole. -/
theorem numB_cut (M : List UInt8) (p t b B : Nat) (h : t + b ≤ B) : numB ((M.drop (p + t)).take b) b = numB (((M.drop p).take B).drop t) b := by
  refine numB_ext _ _ _ fun i hi => ?_
  rw [List.getD_eq_getElem?_getD, List.getD_eq_getElem?_getD, List.getElem?_take_of_lt hi, List.getElem?_drop, List.getElem?_drop, List.getElem?_take_of_lt (by omega), List.getElem?_drop]
  congr 2
  omega

theorem room128 (n z : Nat) (hz : z ≤ endRoom n 128 - 17) : (n + 1 + z) % 128 = 112 ↔ z = endRoom n 128 - 17 := by
  unfold endRoom at *; split at hz <;> split <;> omega
theorem pad_blocks {n : Nat} (k : Kind n) (l : List UInt8) (hk : 64 ≤ k.block) (h9 : k.block = 64 ∨ k.block = 128) : (k.pad l).length = k.block * ((k.pad l).length / k.block) := by
  have h1 : (k.pad l).length = l.length + endRoom l.length k.block := by
    unfold Kind.pad
    rw [List.length_append, endOf_length _ _ hk]
  have h2 : (l.length + endRoom l.length k.block) % k.block = 0 := by
    unfold endRoom
    rcases h9 with h | h <;> rw [h] <;> split <;> omega
  rw [h1]
  have := Nat.div_add_mod (l.length + endRoom l.length k.block) k.block
  omega
theorem ref_add4_64 (a b c d : BitVec 64) : IntKind.u64.wrap (IntKind.u64.wrap (IntKind.u64.wrap ((d.toNat : Int) + c.toNat) + b.toNat) + a.toNat) = ((a + b + c + d).toNat : Int) := by
  rw [wadd64, wadd64, wadd64]
  have : d + c + b + a = a + b + c + d := by
    rw [BitVec.add_comm _ a, BitVec.add_comm _ b, BitVec.add_comm d c, ← BitVec.add_assoc, ← BitVec.add_assoc]
  rw [this]
theorem ref_t64 (W h t c : BitVec 64) (j : Nat) : IntKind.u64.wrap (IntKind.u64.wrap (IntKind.u64.wrap (IntKind.u64.wrap ((h.toNat : Int) + t.toNat) + c.toNat) + (K64 j).toNat) + W.toNat) = ((W + (h + t + c + K64 j)).toNat : Int) := by
  simp only [wadd64]
  rw [BitVec.add_comm (h + t + c + K64 j) W]
theorem ref_u64 (g m : BitVec 64) : IntKind.u64.wrap ((g.toNat : Int) + m.toNat) = ((g + m).toNat : Int) := add64 g m
theorem tri_val64 (x : BitVec 64) (i j k : Nat) : bits .xor .u64 (bits .xor .u64 (rotr x i).toNat (rotr x j).toNat) (rotr x k).toNat = ((tri x i j k).toNat : Int) := by
  rw [xor64, xor64]; rfl
theorem chz_val64 (x y z : BitVec 64) : bits .xor .u64 (bits .and .u64 x.toNat y.toNat) (bits .and .u64 (bits .xor .u64 IntKind.u64.max x.toNat) z.toNat) = ((chz x y z).toNat : Int) := by
  rw [not64, and64, and64, xor64]; rfl
theorem maj_val64 (x y z : BitVec 64) : bits .xor .u64 (bits .xor .u64 (bits .and .u64 x.toNat y.toNat) (bits .and .u64 x.toNat z.toNat)) (bits .and .u64 y.toNat z.toNat) = ((maj x y z).toNat : Int) := by
  rw [and64, and64, and64, xor64, xor64]; rfl
def sel64 (a b c d e f g h : Int) : Nat → Value
  | 0 => .int .u64 a
  | 1 => .int .u64 b
  | 2 => .int .u64 c
  | 3 => .int .u64 d
  | 4 => .int .u64 e
  | 5 => .int .u64 f
  | 6 => .int .u64 g
  | _ => .int .u64 h
theorem sel64_one (a b c d e f g h : Int) : ∀ j, j < 8 → (sel64 a b c d e f g h j).oneCell' = true := fun j _ => by
  unfold sel64; split <;> rfl
theorem sel64_state (s : S8 64) (a b c d e f g h : Int) (h0 : a = (s.a.toNat : Int)) (h1 : b = (s.b.toNat : Int)) (h2 : c = (s.c.toNat : Int)) (h3 : d = (s.d.toNat : Int)) (h4 : e = (s.e.toNat : Int)) (h5 : f = (s.f.toNat : Int)) (h6 : g = (s.g.toNat : Int)) (h7 : h = (s.h.toNat : Int)) (i : Nat) (_hi : i < 8) :
    sel64 a b c d e f g h i = w64 s.at i := by
  subst h0 h1 h2 h3 h4 h5 h6 h7
  match i with
  | 0 => rfl
  | 1 => rfl
  | 2 => rfl
  | 3 => rfl
  | 4 => rfl
  | 5 => rfl
  | 6 => rfl
  | _ + 7 => rfl
end Go.Proofs.YtonhpmaiagbheaaGreat

/- The document's sums: the first sixteen words of a block. -/
set_option linter.unusedSimpArgs false
set_option linter.unusedVariables false
namespace Go.Proofs.YtonhpmaiagbheaaGreat
open Go.RowKit Go.Deep

set_option maxHeartbeats 16000000 in
set_option maxRecDepth 100000 in
theorem ref512_L4 {Q : Exit → Act → World → Prop} (w3 : World) (hb wb T c3 q : Nat) (a3 : Option Addr) (M : List UInt8) (W : Nat → BitVec 64) (st : Nat → BitVec 64) {u0 u1 u2 u3 u4 u9 u10 u11 u12 u13 u14 u15 u16 u17 u18 u19 u20 u21 u22 u23 u24 u25 u26 u27 u28 u29 u30 u31 u32 u33 u34 u35 u36 u37 u38 u39 u40 u41 u42 u43 u44 u45 u46 u47 u48 u49 u50 u51 u52 u53 u54 u55 u56 u57 u58 u59 u60 u61 u62 u63 u64 u65 u66 u67 u68 u69 u70 u71 u72 u73 u74 u75 u76 u77 u78 u79 u80 u81 u82 u83 u84 u85 u86 u87 u88 u89 u90 u91 u92 u93 u94 u95 u96 u97 u98 u99 u100 u101 u102 u103 u104 u105 u106 u107 u108 u109 u110 u111 u112 u113 u114 u115 u116 u117 u118 u119 u120 u121 u122 u123 u124 u125 u126 u127 u128 u129 u130 u131 u132 u133 u134 u135 u136 u137 u138 u139 u140 u141 u142 u143 u144 u145 u146 u147 u148 u149 u150 u151 u152 u153 u154 u155 u156 u157 u158 u159 u160 u161 u162 u163 u164 u165 u166 u167 u168 u169 u170 u171 u172 u173 u174 u175 u176 u177 u178 u179 u180 u181 u182 u183 u184 u185 u186 u187 u188 u189 u190 u191 u192 u193 u194 u195 u196 u197 u198 u199 u200 u201 u202 u203 u204 u205 u206 u207 u208 u209 u210 u211 u212 u213 u214 u215 u216 u217 u218 u219 u220 u221 u222 u223 u224 u225 u226 : Value} {wq : World} (hT : T < 2 ^ 31) (hq : q + 128 ≤ T) (hB3 : Hid (Bs w3 (.slice a3 T c3) M)) (hA3 : Away (.slice a3 T c3) hb) (hwb : w3.heap.size ≤ wb) (hwn : hb ≠ wb) (HW16 : Hid (∀ t, t < 16 → W t = BitVec.ofNat 64 (numB ((M.drop (q + 8 * t)).take 8) 8)))
    (hW0 : wq.rowIs wb 104 80 (fun _ => .int .u64 0)) (hH0 : wq.rowIs hb 83 8 (w64 st)) (hg0 : w3.grownBy wq (some hb))
    (hK : ∀ (x8 x49 x50 x51 x52 x53 x54 x55 x56 x57 x58 x59 x60 x61 x62 x63 x64 x65 x66 : Value) (w' : World), (w'.rowIs wb 104 80 (fun i => .int .u64 (if i < 16 then ((W i).toNat : Int) else 0)) ∧ w'.rowIs hb 83 8 (w64 st) ∧ w3.grownBy w' (some hb)) → Q (.exit 4) ⟨(List.toArray (u0 :: u1 :: u2 :: u3 :: u4 :: (.slice a3 T c3) :: (.int .i64 (q : Int)) :: (.pointer (some ⟨wb, 0, none⟩)) :: x8 :: u9 :: u10 :: u11 :: u12 :: u13 :: u14 :: u15 :: u16 :: u17 :: u18 :: u19 :: u20 :: u21 :: u22 :: u23 :: u24 :: u25 :: u26 :: u27 :: u28 :: u29 :: u30 :: u31 :: u32 :: u33 :: u34 :: u35 :: u36 :: u37 :: u38 :: u39 :: u40 :: u41 :: u42 :: u43 :: u44 :: u45 :: u46 :: u47 :: u48 :: x49 :: x50 :: x51 :: x52 :: x53 :: x54 :: x55 :: x56 :: x57 :: x58 :: x59 :: x60 :: x61 :: x62 :: x63 :: x64 :: x65 :: x66 :: u67 :: u68 :: u69 :: u70 :: u71 :: u72 :: u73 :: u74 :: u75 :: u76 :: u77 :: u78 :: u79 :: u80 :: u81 :: u82 :: u83 :: u84 :: u85 :: u86 :: u87 :: u88 :: u89 :: u90 :: u91 :: u92 :: u93 :: u94 :: u95 :: u96 :: u97 :: u98 :: u99 :: u100 :: u101 :: u102 :: u103 :: u104 :: u105 :: u106 :: u107 :: u108 :: u109 :: u110 :: u111 :: u112 :: u113 :: u114 :: u115 :: u116 :: u117 :: u118 :: u119 :: u120 :: u121 :: u122 :: u123 :: u124 :: u125 :: u126 :: u127 :: u128 :: u129 :: u130 :: u131 :: u132 :: u133 :: u134 :: u135 :: u136 :: u137 :: u138 :: u139 :: u140 :: u141 :: u142 :: u143 :: u144 :: u145 :: u146 :: u147 :: u148 :: u149 :: u150 :: u151 :: u152 :: u153 :: u154 :: u155 :: u156 :: u157 :: u158 :: u159 :: u160 :: u161 :: u162 :: u163 :: u164 :: u165 :: u166 :: u167 :: u168 :: u169 :: u170 :: u171 :: u172 :: u173 :: u174 :: u175 :: u176 :: u177 :: u178 :: u179 :: u180 :: u181 :: u182 :: u183 :: u184 :: u185 :: u186 :: u187 :: u188 :: u189 :: u190 :: u191 :: u192 :: u193 :: u194 :: u195 :: u196 :: u197 :: u198 :: u199 :: u200 :: u201 :: u202 :: u203 :: u204 :: u205 :: u206 :: u207 :: u208 :: u209 :: u210 :: u211 :: u212 :: u213 :: u214 :: u215 :: u216 :: u217 :: u218 :: u219 :: u220 :: u221 :: u222 :: u223 :: u224 :: u225 :: u226 :: [])), []⟩ w') :
    Code.wp Tryz.prog (codeAt 4 Tryz.f29) Q ⟨(List.toArray (u0 :: u1 :: u2 :: u3 :: u4 :: (.slice a3 T c3) :: (.int .i64 (q : Int)) :: (.pointer (some ⟨wb, 0, none⟩)) :: (.int .i64 (0 : Int)) :: u9 :: u10 :: u11 :: u12 :: u13 :: u14 :: u15 :: u16 :: u17 :: u18 :: u19 :: u20 :: u21 :: u22 :: u23 :: u24 :: u25 :: u26 :: u27 :: u28 :: u29 :: u30 :: u31 :: u32 :: u33 :: u34 :: u35 :: u36 :: u37 :: u38 :: u39 :: u40 :: u41 :: u42 :: u43 :: u44 :: u45 :: u46 :: u47 :: u48 :: u49 :: u50 :: u51 :: u52 :: u53 :: u54 :: u55 :: u56 :: u57 :: u58 :: u59 :: u60 :: u61 :: u62 :: u63 :: u64 :: u65 :: u66 :: u67 :: u68 :: u69 :: u70 :: u71 :: u72 :: u73 :: u74 :: u75 :: u76 :: u77 :: u78 :: u79 :: u80 :: u81 :: u82 :: u83 :: u84 :: u85 :: u86 :: u87 :: u88 :: u89 :: u90 :: u91 :: u92 :: u93 :: u94 :: u95 :: u96 :: u97 :: u98 :: u99 :: u100 :: u101 :: u102 :: u103 :: u104 :: u105 :: u106 :: u107 :: u108 :: u109 :: u110 :: u111 :: u112 :: u113 :: u114 :: u115 :: u116 :: u117 :: u118 :: u119 :: u120 :: u121 :: u122 :: u123 :: u124 :: u125 :: u126 :: u127 :: u128 :: u129 :: u130 :: u131 :: u132 :: u133 :: u134 :: u135 :: u136 :: u137 :: u138 :: u139 :: u140 :: u141 :: u142 :: u143 :: u144 :: u145 :: u146 :: u147 :: u148 :: u149 :: u150 :: u151 :: u152 :: u153 :: u154 :: u155 :: u156 :: u157 :: u158 :: u159 :: u160 :: u161 :: u162 :: u163 :: u164 :: u165 :: u166 :: u167 :: u168 :: u169 :: u170 :: u171 :: u172 :: u173 :: u174 :: u175 :: u176 :: u177 :: u178 :: u179 :: u180 :: u181 :: u182 :: u183 :: u184 :: u185 :: u186 :: u187 :: u188 :: u189 :: u190 :: u191 :: u192 :: u193 :: u194 :: u195 :: u196 :: u197 :: u198 :: u199 :: u200 :: u201 :: u202 :: u203 :: u204 :: u205 :: u206 :: u207 :: u208 :: u209 :: u210 :: u211 :: u212 :: u213 :: u214 :: u215 :: u216 :: u217 :: u218 :: u219 :: u220 :: u221 :: u222 :: u223 :: u224 :: u225 :: u226 :: [])), []⟩ wq := by
  conv => arg 2; whnf
  go_loopw [8] (fun i wr => ∃ t : Nat, t ≤ 16 ∧ i = .int .i64 t ∧ wr.rowIs wb 104 80 (fun i => .int .u64 (if i < t then ((W i).toNat : Int) else 0)) ∧
    wr.rowIs hb 83 8 (w64 st) ∧ w3.grownBy wr (some hb)) (fun i _ => 16 - (intOf i).toNat)
  case atStart => exact ⟨0, Nat.zero_le _, rfl, hW0.congr fun i _ => rfl, hH0, hg0⟩
  case round =>
    clear hW0 hH0 hg0
    obtain ⟨t, ht, rfl, hWr, hH, hg⟩ := hrel
    by_cases hlt4 : t < 16
    · have HBq := Lib.hid (gb_bs hB3.out hg hA3)
      have hcell := hWr.cell (i := t) (by omega)
      have hfr := hWr.frozen t
      have ht16 : (t : Int) < 80 := by omega
      have hnum : ((numB ((M.drop (q + 8 * t)).take 8) 8 : Nat) : Int) = ((W t).toNat : Int) := by
        rw [HW16.out t hlt4, ← numB_w64]
      clear hK
      go_wp2_with (first
        | (refine wpList_bsCut rfl (.tmp 54) (.tmp 58) (.tmp 63) rfl HBq.out (q + 8 * t) (q + 8 * t + 8) rfl rfl (by omega) rfl (by omega) (by omega) (by omega) 8 (by omega) ?_; intro ad' hB'
           have HB' := Lib.hid hB'
           clear hB')
        | (go_at_call 73; refine (getBig_any _ _ 8 _ HB'.out (by omega) (by omega)).mono ?_; rintro e w' ⟨rfl, rfl⟩))
      go_roundw
      case rel =>
        refine ⟨t + 1, by omega, by go_num, (hWr.set t _).congr fun i hi => ?_, hH.setOther hwn _, gb_set hg hwb _⟩
        show (if i = t then _ else _) = _
        by_cases e : i = t
        · subst e
          rw [if_pos rfl, if_pos (by omega)]
          try (first | rfl | exact congrArg (Value.int .u64) hnum)
        · rw [if_neg e]
          by_cases h2 : i < t
          · rw [if_pos h2, if_pos (by omega)]
          · rw [if_neg h2, if_neg (by omega)]
      case measure => simp [intOf]; omega
    · obtain rfl : t = 16 := by omega
      go_wp2
      exact ⟨hWr, hH, hg⟩

end Go.Proofs.YtonhpmaiagbheaaGreat

/- The document's sums: the words that follow. -/
set_option linter.unusedSimpArgs false
set_option linter.unusedVariables false
namespace Go.Proofs.YtonhpmaiagbheaaGreat
open Go.RowKit Go.Deep

set_option maxHeartbeats 16000000 in
set_option maxRecDepth 100000 in
theorem ref512_L5 {Q : Exit → Act → World → Prop} (w3 : World) (hb wb : Nat) (W : Nat → BitVec 64) (st : Nat → BitVec 64) {u0 u1 u2 u3 u4 u5 u6 u8 u10 u11 u12 u13 u14 u15 u16 u17 u18 u19 u20 u21 u22 u23 u24 u25 u26 u27 u28 u29 u30 u31 u32 u33 u34 u35 u36 u37 u38 u39 u40 u41 u42 u43 u44 u45 u46 u47 u48 u49 u50 u51 u52 u53 u54 u55 u56 u57 u58 u59 u60 u61 u62 u63 u64 u65 u66 u67 u68 u69 u70 u71 u72 u73 u74 u75 u76 u77 u78 u79 u80 u81 u82 u83 u84 u85 u86 u87 u88 u89 u90 u91 u92 u93 u94 u95 u96 u97 u98 u99 u100 u101 u102 u103 u104 u105 u106 u107 u108 u109 u110 u111 u112 u113 u114 u115 u116 u117 u118 u119 u120 u121 u122 u123 u124 u125 u126 u127 u128 u129 u130 u131 u132 u133 u134 u135 u136 u137 u138 u139 u140 u141 u142 u143 u144 u145 u146 u147 u148 u149 u150 u151 u152 u153 u154 u155 u156 u157 u158 u159 u160 u161 u162 u163 u164 u165 u166 u167 u168 u169 u170 u171 u172 u173 u174 u175 u176 u177 u178 u179 u180 u181 u182 u183 u184 u185 u186 u187 u188 u189 u190 u191 u192 u193 u194 u195 u196 u197 u198 u199 u200 u201 u202 u203 u204 u205 u206 u207 u208 u209 u210 u211 u212 u213 u214 u215 u216 u217 u218 u219 u220 u221 u222 u223 u224 u225 u226 : Value} {wq : World} (hwb : w3.heap.size ≤ wb) (hwn : hb ≠ wb) (HWs : Hid (∀ i, 16 ≤ i → W i = sig (W (i - 2)) 19 61 6 + W (i - 7) + sig (W (i - 15)) 1 8 7 + W (i - 16)))
    (hW0 : wq.rowIs wb 104 80 (fun i => .int .u64 (if i < 16 then ((W i).toNat : Int) else 0))) (hH0 : wq.rowIs hb 83 8 (w64 st)) (hg0 : w3.grownBy wq (some hb))
    (hK : ∀ (x9 x10 x11 x67 x68 x69 x70 x71 x72 x73 x74 x75 x76 x77 x78 x79 x80 x81 x82 x83 x84 x85 x86 x87 x88 x89 x90 x91 x92 x93 x94 x95 x96 x97 x98 x99 x100 x101 x102 x103 x104 x105 x106 x107 x108 x109 x110 x111 x112 x113 x114 x115 x116 x117 x118 x119 : Value) (w' : World), (w'.rowIs wb 104 80 (w64 W) ∧ w'.rowIs hb 83 8 (w64 st) ∧ w3.grownBy w' (some hb)) → Q (.exit 6) ⟨(List.toArray (u0 :: u1 :: u2 :: u3 :: u4 :: u5 :: u6 :: (.pointer (some ⟨wb, 0, none⟩)) :: u8 :: x9 :: x10 :: x11 :: u12 :: u13 :: u14 :: u15 :: u16 :: u17 :: u18 :: u19 :: u20 :: u21 :: u22 :: u23 :: u24 :: u25 :: u26 :: u27 :: u28 :: u29 :: u30 :: u31 :: u32 :: u33 :: u34 :: u35 :: u36 :: u37 :: u38 :: u39 :: u40 :: u41 :: u42 :: u43 :: u44 :: u45 :: u46 :: u47 :: u48 :: u49 :: u50 :: u51 :: u52 :: u53 :: u54 :: u55 :: u56 :: u57 :: u58 :: u59 :: u60 :: u61 :: u62 :: u63 :: u64 :: u65 :: u66 :: x67 :: x68 :: x69 :: x70 :: x71 :: x72 :: x73 :: x74 :: x75 :: x76 :: x77 :: x78 :: x79 :: x80 :: x81 :: x82 :: x83 :: x84 :: x85 :: x86 :: x87 :: x88 :: x89 :: x90 :: x91 :: x92 :: x93 :: x94 :: x95 :: x96 :: x97 :: x98 :: x99 :: x100 :: x101 :: x102 :: x103 :: x104 :: x105 :: x106 :: x107 :: x108 :: x109 :: x110 :: x111 :: x112 :: x113 :: x114 :: x115 :: x116 :: x117 :: x118 :: x119 :: u120 :: u121 :: u122 :: u123 :: u124 :: u125 :: u126 :: u127 :: u128 :: u129 :: u130 :: u131 :: u132 :: u133 :: u134 :: u135 :: u136 :: u137 :: u138 :: u139 :: u140 :: u141 :: u142 :: u143 :: u144 :: u145 :: u146 :: u147 :: u148 :: u149 :: u150 :: u151 :: u152 :: u153 :: u154 :: u155 :: u156 :: u157 :: u158 :: u159 :: u160 :: u161 :: u162 :: u163 :: u164 :: u165 :: u166 :: u167 :: u168 :: u169 :: u170 :: u171 :: u172 :: u173 :: u174 :: u175 :: u176 :: u177 :: u178 :: u179 :: u180 :: u181 :: u182 :: u183 :: u184 :: u185 :: u186 :: u187 :: u188 :: u189 :: u190 :: u191 :: u192 :: u193 :: u194 :: u195 :: u196 :: u197 :: u198 :: u199 :: u200 :: u201 :: u202 :: u203 :: u204 :: u205 :: u206 :: u207 :: u208 :: u209 :: u210 :: u211 :: u212 :: u213 :: u214 :: u215 :: u216 :: u217 :: u218 :: u219 :: u220 :: u221 :: u222 :: u223 :: u224 :: u225 :: u226 :: [])), []⟩ w') :
    Code.wp Tryz.prog (codeAt 6 Tryz.f29) Q ⟨(List.toArray (u0 :: u1 :: u2 :: u3 :: u4 :: u5 :: u6 :: (.pointer (some ⟨wb, 0, none⟩)) :: u8 :: (.int .i64 (16 : Int)) :: u10 :: u11 :: u12 :: u13 :: u14 :: u15 :: u16 :: u17 :: u18 :: u19 :: u20 :: u21 :: u22 :: u23 :: u24 :: u25 :: u26 :: u27 :: u28 :: u29 :: u30 :: u31 :: u32 :: u33 :: u34 :: u35 :: u36 :: u37 :: u38 :: u39 :: u40 :: u41 :: u42 :: u43 :: u44 :: u45 :: u46 :: u47 :: u48 :: u49 :: u50 :: u51 :: u52 :: u53 :: u54 :: u55 :: u56 :: u57 :: u58 :: u59 :: u60 :: u61 :: u62 :: u63 :: u64 :: u65 :: u66 :: u67 :: u68 :: u69 :: u70 :: u71 :: u72 :: u73 :: u74 :: u75 :: u76 :: u77 :: u78 :: u79 :: u80 :: u81 :: u82 :: u83 :: u84 :: u85 :: u86 :: u87 :: u88 :: u89 :: u90 :: u91 :: u92 :: u93 :: u94 :: u95 :: u96 :: u97 :: u98 :: u99 :: u100 :: u101 :: u102 :: u103 :: u104 :: u105 :: u106 :: u107 :: u108 :: u109 :: u110 :: u111 :: u112 :: u113 :: u114 :: u115 :: u116 :: u117 :: u118 :: u119 :: u120 :: u121 :: u122 :: u123 :: u124 :: u125 :: u126 :: u127 :: u128 :: u129 :: u130 :: u131 :: u132 :: u133 :: u134 :: u135 :: u136 :: u137 :: u138 :: u139 :: u140 :: u141 :: u142 :: u143 :: u144 :: u145 :: u146 :: u147 :: u148 :: u149 :: u150 :: u151 :: u152 :: u153 :: u154 :: u155 :: u156 :: u157 :: u158 :: u159 :: u160 :: u161 :: u162 :: u163 :: u164 :: u165 :: u166 :: u167 :: u168 :: u169 :: u170 :: u171 :: u172 :: u173 :: u174 :: u175 :: u176 :: u177 :: u178 :: u179 :: u180 :: u181 :: u182 :: u183 :: u184 :: u185 :: u186 :: u187 :: u188 :: u189 :: u190 :: u191 :: u192 :: u193 :: u194 :: u195 :: u196 :: u197 :: u198 :: u199 :: u200 :: u201 :: u202 :: u203 :: u204 :: u205 :: u206 :: u207 :: u208 :: u209 :: u210 :: u211 :: u212 :: u213 :: u214 :: u215 :: u216 :: u217 :: u218 :: u219 :: u220 :: u221 :: u222 :: u223 :: u224 :: u225 :: u226 :: [])), []⟩ wq := by
  conv => arg 2; whnf
  go_loopw [9] (fun i wr => ∃ t : Nat, 16 ≤ t ∧ t ≤ 80 ∧ i = .int .i64 t ∧ wr.rowIs wb 104 80 (fun i => .int .u64 (if i < t then ((W i).toNat : Int) else 0)) ∧
    wr.rowIs hb 83 8 (w64 st) ∧ w3.grownBy wr (some hb)) (fun i _ => 80 - (intOf i).toNat)
  case atStart => exact ⟨16, by omega, by omega, rfl, hW0, hH0, hg0⟩
  case round =>
    clear hW0 hH0 hg0
    obtain ⟨t, ht0, ht, rfl, hWr, hH, hg⟩ := hrel
    by_cases hlt5 : t < 80
    · clear hK
      have c15 := hWr.cell (i := t - 15) (by omega)
      have c2 := hWr.cell (i := t - 2) (by omega)
      have c7 := hWr.cell (i := t - 7) (by omega)
      have c16 := hWr.cell (i := t - 16) (by omega)
      have c0 := hWr.cell (i := t) (by omega)
      rw [if_pos (by omega)] at c15 c2 c7 c16
      rw [if_neg (by omega)] at c0
      have hfr := hWr.frozen t
      have b1 : (15 : Int) ≤ (t : Int) := by omega
      have b2 : (t : Int) < 80 := by omega
      have hs : IntKind.u64.signed = false := rfl
      go_wp2
      go_quiet ((go_at_call 74; exact Calls.quiet_of (rot64_lit _ _ _ (by omega) (by omega))))
      clear c15 c2 c7 c16 c0 hfr
      replace hWr : (wr.drewN nq).rowIs wb 104 80 _ := hWr
      replace hH : (wr.drewN nq).rowIs hb 83 8 _ := hH
      replace hg := gb_drew hg nq
      generalize wr.drewN nq = wz at hWr hH hg ⊢
      have c2 := hWr.cell (i := t - 2) (by omega)
      have c7 := hWr.cell (i := t - 7) (by omega)
      have c16 := hWr.cell (i := t - 16) (by omega)
      have c0 := hWr.cell (i := t) (by omega)
      rw [if_pos (by omega)] at c2 c7 c16
      rw [if_neg (by omega)] at c0
      have hfr := hWr.frozen t
      obtain ⟨S1, hS1⟩ : ∃ S1, S1 = sig (W (t - 15)) 1 8 7 := ⟨_, rfl⟩
      have e1 : bits .xor .u64 (bits .xor .u64 (rotr (W (t - 15)) 1).toNat (rotr (W (t - 15)) 8).toNat) (((W (t - 15)).toNat : Int) / 128) = (S1.toNat : Int) := by rw [hS1]; exact sig_val64 _ 1 8 7
      rw [e1]
      have HS1 := Lib.hid hS1
      clear hS1 e1
      go_wp2
      go_quiet ((go_at_call 74; exact Calls.quiet_of (rot64_lit _ _ _ (by omega) (by omega))))
      obtain ⟨S2, hS2⟩ : ∃ S2, S2 = sig (W (t - 2)) 19 61 6 := ⟨_, rfl⟩
      have e2 : bits .xor .u64 (bits .xor .u64 (rotr (W (t - 2)) 19).toNat (rotr (W (t - 2)) 61).toNat) (((W (t - 2)).toNat : Int) / 64) = (S2.toNat : Int) := by rw [hS2]; exact sig_val64 _ 19 61 6
      rw [e2]
      have HS2 := Lib.hid hS2
      clear hS2 e2 c2 c7 c16 c0 hfr
      replace hWr : (wz.drewN nq).rowIs wb 104 80 _ := hWr
      replace hH : (wz.drewN nq).rowIs hb 83 8 _ := hH
      replace hg := gb_drew hg nq
      generalize wz.drewN nq = wy at hWr hH hg ⊢
      have c7 := hWr.cell (i := t - 7) (by omega)
      have c16 := hWr.cell (i := t - 16) (by omega)
      have c0 := hWr.cell (i := t) (by omega)
      rw [if_pos (by omega)] at c7 c16
      rw [if_neg (by omega)] at c0
      have hfr := hWr.frozen t
      have w16 : IntKind.i64.wrap ((t : Int) - 16) = ((t - 16 : Nat) : Int) := by rw [IntWalk.i64_in _ (by omega)]; omega
      have w7 : IntKind.i64.wrap ((t : Int) - 7) = ((t - 7 : Nat) : Int) := by rw [IntWalk.i64_in _ (by omega)]; omega
      have m16 : ((t - 16 : Nat) : Int) < 80 := by omega
      have m7 : ((t - 7 : Nat) : Int) < 80 := by omega
      go_wp2
      replace hWr : wy.drew.rowIs wb 104 80 _ := hWr
      refine wp_noPan ?_
      refine wp_region_lins [(0, some [15]), (1, some [15]), (2, some [15]), (3, some [15]), (4, some [15]), (5, some [15]), (6, some [15]), (7, some [15]), (8, some [15]), (9, some [15]), (10, some [15]), (11, some [15]), (12, some [15]), (13, some [15]), (14, some [15]), (15, none)] (fun _ w' => w' = wy.drew) (by kernel_rfl) (by kernel_rfl) (by decide) (by kernel_rfl) (fun d _ _ _ _ h => by cases d <;> exact h) (fun _ _ => rfl) ?_
      refine lins_read 105 (Op.move (Operand.tmp 9)) 3 _ rfl rfl rfl rfl rfl (fun w0 hw0 => by unfold mkOp; go_simp; all_goals (with_reducible rfl)) ?_
      simp only [Act.put, List.setIfInBounds_toArray, List.set_cons_zero, List.set_cons_succ]
      refine lins_read 106 (Op.move (Operand.tmp 9)) 3 _ rfl rfl rfl rfl rfl (fun w0 hw0 => by unfold mkOp; go_simp; all_goals (with_reducible rfl)) ?_
      simp only [Act.put, List.setIfInBounds_toArray, List.set_cons_zero, List.set_cons_succ]
      refine lins_read 107 (Op.binOp BinOp.sub 3 (Operand.tmp 106) (Operand.const (Value.int IntKind.i64 16)) 3) 3 _ rfl rfl rfl rfl rfl (fun w0 hw0 => by unfold mkOp; go_simp; all_goals (with_reducible rfl)) ?_
      simp only [Act.put, List.setIfInBounds_toArray, List.set_cons_zero, List.set_cons_succ]
      refine lins_read 108 (Op.indexAddr 104 (Operand.tmp 7) (Operand.tmp 107)) 0 _ rfl rfl rfl rfl rfl (fun w0 hw0 => by unfold mkOp; go_simp; all_goals (with_reducible rfl)) ?_
      simp only [Act.put, List.setIfInBounds_toArray, List.set_cons_zero, List.set_cons_succ]
      refine lins_read 109 (Op.load 45 (Operand.tmp 108)) 45 (.int .u64 ((W (t - 16)).toNat : Int)) rfl rfl rfl rfl rfl (fun w0 hw0 => by obtain rfl := hw0 15 (by simp); exact exec_load_cell _ _ _ _ rfl (by kernel_rfl) c16) ?_
      simp only [Act.put, List.setIfInBounds_toArray, List.set_cons_zero, List.set_cons_succ]
      refine lins_read 110 (Op.move (Operand.tmp 10)) 45 _ rfl rfl rfl rfl rfl (fun w0 hw0 => by unfold mkOp; go_simp; all_goals (with_reducible rfl)) ?_
      simp only [Act.put, List.setIfInBounds_toArray, List.set_cons_zero, List.set_cons_succ]
      refine lins_read 111 (Op.binOp BinOp.add 45 (Operand.tmp 109) (Operand.tmp 110) 45) 45 _ rfl rfl rfl rfl rfl (fun w0 hw0 => by unfold mkOp; go_simp; all_goals (with_reducible rfl)) ?_
      simp only [Act.put, List.setIfInBounds_toArray, List.set_cons_zero, List.set_cons_succ]
      refine lins_read 112 (Op.move (Operand.tmp 9)) 3 _ rfl rfl rfl rfl rfl (fun w0 hw0 => by unfold mkOp; go_simp; all_goals (with_reducible rfl)) ?_
      simp only [Act.put, List.setIfInBounds_toArray, List.set_cons_zero, List.set_cons_succ]
      refine lins_read 113 (Op.binOp BinOp.sub 3 (Operand.tmp 112) (Operand.const (Value.int IntKind.i64 7)) 3) 3 _ rfl rfl rfl rfl rfl (fun w0 hw0 => by unfold mkOp; go_simp; all_goals (with_reducible rfl)) ?_
      simp only [Act.put, List.setIfInBounds_toArray, List.set_cons_zero, List.set_cons_succ]
      refine lins_read 114 (Op.indexAddr 104 (Operand.tmp 7) (Operand.tmp 113)) 0 _ rfl rfl rfl rfl rfl (fun w0 hw0 => by unfold mkOp; go_simp; all_goals (with_reducible rfl)) ?_
      simp only [Act.put, List.setIfInBounds_toArray, List.set_cons_zero, List.set_cons_succ]
      refine lins_read 115 (Op.load 45 (Operand.tmp 114)) 45 (.int .u64 ((W (t - 7)).toNat : Int)) rfl rfl rfl rfl rfl (fun w0 hw0 => by obtain rfl := hw0 15 (by simp); exact exec_load_cell _ _ _ _ rfl (by kernel_rfl) c7) ?_
      simp only [Act.put, List.setIfInBounds_toArray, List.set_cons_zero, List.set_cons_succ]
      refine lins_read 116 (Op.binOp BinOp.add 45 (Operand.tmp 111) (Operand.tmp 115) 45) 45 _ rfl rfl rfl rfl rfl (fun w0 hw0 => by unfold mkOp; go_simp; all_goals (with_reducible rfl)) ?_
      simp only [Act.put, List.setIfInBounds_toArray, List.set_cons_zero, List.set_cons_succ]
      refine lins_read 117 (Op.move (Operand.tmp 11)) 45 _ rfl rfl rfl rfl rfl (fun w0 hw0 => by unfold mkOp; go_simp; all_goals (with_reducible rfl)) ?_
      simp only [Act.put, List.setIfInBounds_toArray, List.set_cons_zero, List.set_cons_succ]
      refine lins_read 118 (Op.binOp BinOp.add 45 (Operand.tmp 116) (Operand.tmp 117) 45) 45 _ rfl rfl rfl rfl rfl (fun w0 hw0 => by unfold mkOp; go_simp; all_goals (with_reducible rfl)) ?_
      simp only [Act.put, List.setIfInBounds_toArray, List.set_cons_zero, List.set_cons_succ]
      refine lins_read 119 (Op.indexAddr 104 (Operand.tmp 7) (Operand.tmp 105)) 0 _ rfl rfl rfl rfl rfl (fun w0 hw0 => by unfold mkOp; go_simp; all_goals (with_reducible rfl)) ?_
      simp only [Act.put, List.setIfInBounds_toArray, List.set_cons_zero, List.set_cons_succ]
      refine lins_store_cell 45 (.tmp 119) (.tmp 118) rfl rfl rfl rfl hWr rfl rfl (by kernel_rfl) rfl rfl (by omega) ?_
      refine ⟨fun _ _ => True, fun c hc => (by cases hc), ?_⟩
      try simp only [Act.put, List.setIfInBounds_toArray, List.set_cons_zero, List.set_cons_succ]
      refine lins_end ?_
      simp only [NoPan]
      go_wp2
      go_roundw
      case rel =>
        (try ((repeat apply Exists.intro); refine ⟨?_, rfl⟩))
        refine ⟨t + 1, by omega, by omega, by go_num, (hWr.set t _).congr fun i hi => ?_, hH.setOther hwn _, ?_⟩
        · show (if i = t then _ else _) = _
          by_cases e : i = t
          · subst e
            rw [if_pos rfl, if_pos (by omega)]
            refine congrArg (Value.int .u64) ?_
            rw [HWs.out i ht0, ← HS1.out, ← HS2.out]
            exact ref_add4_64 _ _ _ _
          · rw [if_neg e]
            by_cases h2 : i < t
            · rw [if_pos h2, if_pos (by omega)]
            · rw [if_neg h2, if_neg (by omega)]
        · first | exact gb_set (gb_drew hg 1) hwb _ | exact gb_set hg hwb _ | exact gb_drew (gb_set (gb_drew hg _) hwb _) _ | exact gb_drew (gb_set hg hwb _) _ | exact gb_set (gb_drew hg _) hwb _
      case measure => simp [intOf]; omega
    · obtain rfl : t = 80 := by omega
      go_wp2
      exact ⟨hWr.congr fun i hi => by rw [if_pos hi]; rfl, hH, hg⟩

end Go.Proofs.YtonhpmaiagbheaaGreat

/- The document's sums: the rounds. -/
set_option linter.unusedSimpArgs false
set_option linter.unusedVariables false
namespace Go.Proofs.YtonhpmaiagbheaaGreat
open Go.RowKit Go.Deep

set_option maxHeartbeats 16000000 in
set_option maxRecDepth 100000 in
theorem ref512_L6 {Q : Exit → Act → World → Prop} (w3 : World) (rb hb wb vb : Nat) (W : Nat → BitVec 64) (s0 : S8 64) {u0 u1 u2 u4 u5 u6 u8 u9 u10 u11 u14 u15 u16 u17 u18 u19 u20 u21 u22 u23 u24 u25 u26 u27 u28 u29 u30 u31 u32 u33 u34 u35 u36 u37 u38 u39 u40 u41 u42 u43 u44 u45 u46 u47 u48 u49 u50 u51 u52 u53 u54 u55 u56 u57 u58 u59 u60 u61 u62 u63 u64 u65 u66 u67 u68 u69 u70 u71 u72 u73 u74 u75 u76 u77 u78 u79 u80 u81 u82 u83 u84 u85 u86 u87 u88 u89 u90 u91 u92 u93 u94 u95 u96 u97 u98 u99 u100 u101 u102 u103 u104 u105 u106 u107 u108 u109 u110 u111 u112 u113 u114 u115 u116 u117 u118 u119 u120 u121 u122 u123 u124 u125 u126 u127 u128 u129 u130 u131 u132 u133 u134 u135 u136 u137 u138 u139 u140 u141 u142 u143 u144 u145 u146 u147 u148 u149 u150 u151 u152 u153 u154 u155 u156 u157 u158 u159 u160 u161 u162 u163 u164 u165 u166 u167 u168 u169 u170 u171 u172 u173 u174 u175 u176 u177 u178 u179 u180 u181 u182 u183 u184 u185 u186 u187 u188 u189 u190 u191 u192 u193 u194 u195 u196 u197 u198 u199 u200 u201 u202 u203 u204 u205 u206 u207 u208 u209 u210 u211 u212 u213 u214 u215 u216 u217 u218 u219 u220 u221 u222 u223 u224 u225 u226 : Value} {wq : World} (hvb : w3.heap.size ≤ vb) (hvn : hb ≠ vb) (hwv : wb ≠ vb) (hrv : rb ≠ vb)
    (hV0 : wq.rowIs vb 83 8 (w64 s0.at)) (hW0 : wq.rowIs wb 104 80 (w64 W)) (hR0 : wq.rowIs rb 104 80 (w64 K64)) (hH0 : wq.rowIs hb 83 8 (w64 s0.at)) (hg0 : w3.grownBy wq (some hb))
    (hK : ∀ (x13 x14 x15 x16 x17 x121 x122 x123 x124 x125 x126 x127 x128 x129 x130 x131 x132 x133 x134 x135 x136 x137 x138 x139 x140 x141 x142 x143 x144 x145 x146 x147 x148 x149 x150 x151 x152 x153 x154 x155 x156 x157 x158 x159 x160 x161 x162 x163 x164 x165 x166 x167 x168 x169 x170 x171 x172 x173 x174 x175 x176 x177 x178 x179 x180 x181 x182 x183 x184 x185 x186 x187 x188 x189 x190 x191 x192 x193 x194 x195 x196 x197 x198 x199 x200 x201 x202 : Value) (w' : World), (w'.rowIs vb 83 8 (w64 (k512.rnd W s0 80).at) ∧ w'.rowIs wb 104 80 (w64 W) ∧ w'.rowIs rb 104 80 (w64 K64) ∧ w'.rowIs hb 83 8 (w64 s0.at) ∧ w3.grownBy w' (some hb)) → Q (.exit 8) ⟨(List.toArray (u0 :: u1 :: u2 :: (.pointer (some ⟨rb, 0, none⟩)) :: u4 :: u5 :: u6 :: (.pointer (some ⟨wb, 0, none⟩)) :: u8 :: u9 :: u10 :: u11 :: (.pointer (some ⟨vb, 0, none⟩)) :: x13 :: x14 :: x15 :: x16 :: x17 :: u18 :: u19 :: u20 :: u21 :: u22 :: u23 :: u24 :: u25 :: u26 :: u27 :: u28 :: u29 :: u30 :: u31 :: u32 :: u33 :: u34 :: u35 :: u36 :: u37 :: u38 :: u39 :: u40 :: u41 :: u42 :: u43 :: u44 :: u45 :: u46 :: u47 :: u48 :: u49 :: u50 :: u51 :: u52 :: u53 :: u54 :: u55 :: u56 :: u57 :: u58 :: u59 :: u60 :: u61 :: u62 :: u63 :: u64 :: u65 :: u66 :: u67 :: u68 :: u69 :: u70 :: u71 :: u72 :: u73 :: u74 :: u75 :: u76 :: u77 :: u78 :: u79 :: u80 :: u81 :: u82 :: u83 :: u84 :: u85 :: u86 :: u87 :: u88 :: u89 :: u90 :: u91 :: u92 :: u93 :: u94 :: u95 :: u96 :: u97 :: u98 :: u99 :: u100 :: u101 :: u102 :: u103 :: u104 :: u105 :: u106 :: u107 :: u108 :: u109 :: u110 :: u111 :: u112 :: u113 :: u114 :: u115 :: u116 :: u117 :: u118 :: u119 :: u120 :: x121 :: x122 :: x123 :: x124 :: x125 :: x126 :: x127 :: x128 :: x129 :: x130 :: x131 :: x132 :: x133 :: x134 :: x135 :: x136 :: x137 :: x138 :: x139 :: x140 :: x141 :: x142 :: x143 :: x144 :: x145 :: x146 :: x147 :: x148 :: x149 :: x150 :: x151 :: x152 :: x153 :: x154 :: x155 :: x156 :: x157 :: x158 :: x159 :: x160 :: x161 :: x162 :: x163 :: x164 :: x165 :: x166 :: x167 :: x168 :: x169 :: x170 :: x171 :: x172 :: x173 :: x174 :: x175 :: x176 :: x177 :: x178 :: x179 :: x180 :: x181 :: x182 :: x183 :: x184 :: x185 :: x186 :: x187 :: x188 :: x189 :: x190 :: x191 :: x192 :: x193 :: x194 :: x195 :: x196 :: x197 :: x198 :: x199 :: x200 :: x201 :: x202 :: u203 :: u204 :: u205 :: u206 :: u207 :: u208 :: u209 :: u210 :: u211 :: u212 :: u213 :: u214 :: u215 :: u216 :: u217 :: u218 :: u219 :: u220 :: u221 :: u222 :: u223 :: u224 :: u225 :: u226 :: [])), []⟩ w') :
    Code.wp Tryz.prog (codeAt 8 Tryz.f29) Q ⟨(List.toArray (u0 :: u1 :: u2 :: (.pointer (some ⟨rb, 0, none⟩)) :: u4 :: u5 :: u6 :: (.pointer (some ⟨wb, 0, none⟩)) :: u8 :: u9 :: u10 :: u11 :: (.pointer (some ⟨vb, 0, none⟩)) :: (.int .i64 (0 : Int)) :: u14 :: u15 :: u16 :: u17 :: u18 :: u19 :: u20 :: u21 :: u22 :: u23 :: u24 :: u25 :: u26 :: u27 :: u28 :: u29 :: u30 :: u31 :: u32 :: u33 :: u34 :: u35 :: u36 :: u37 :: u38 :: u39 :: u40 :: u41 :: u42 :: u43 :: u44 :: u45 :: u46 :: u47 :: u48 :: u49 :: u50 :: u51 :: u52 :: u53 :: u54 :: u55 :: u56 :: u57 :: u58 :: u59 :: u60 :: u61 :: u62 :: u63 :: u64 :: u65 :: u66 :: u67 :: u68 :: u69 :: u70 :: u71 :: u72 :: u73 :: u74 :: u75 :: u76 :: u77 :: u78 :: u79 :: u80 :: u81 :: u82 :: u83 :: u84 :: u85 :: u86 :: u87 :: u88 :: u89 :: u90 :: u91 :: u92 :: u93 :: u94 :: u95 :: u96 :: u97 :: u98 :: u99 :: u100 :: u101 :: u102 :: u103 :: u104 :: u105 :: u106 :: u107 :: u108 :: u109 :: u110 :: u111 :: u112 :: u113 :: u114 :: u115 :: u116 :: u117 :: u118 :: u119 :: u120 :: u121 :: u122 :: u123 :: u124 :: u125 :: u126 :: u127 :: u128 :: u129 :: u130 :: u131 :: u132 :: u133 :: u134 :: u135 :: u136 :: u137 :: u138 :: u139 :: u140 :: u141 :: u142 :: u143 :: u144 :: u145 :: u146 :: u147 :: u148 :: u149 :: u150 :: u151 :: u152 :: u153 :: u154 :: u155 :: u156 :: u157 :: u158 :: u159 :: u160 :: u161 :: u162 :: u163 :: u164 :: u165 :: u166 :: u167 :: u168 :: u169 :: u170 :: u171 :: u172 :: u173 :: u174 :: u175 :: u176 :: u177 :: u178 :: u179 :: u180 :: u181 :: u182 :: u183 :: u184 :: u185 :: u186 :: u187 :: u188 :: u189 :: u190 :: u191 :: u192 :: u193 :: u194 :: u195 :: u196 :: u197 :: u198 :: u199 :: u200 :: u201 :: u202 :: u203 :: u204 :: u205 :: u206 :: u207 :: u208 :: u209 :: u210 :: u211 :: u212 :: u213 :: u214 :: u215 :: u216 :: u217 :: u218 :: u219 :: u220 :: u221 :: u222 :: u223 :: u224 :: u225 :: u226 :: [])), []⟩ wq := by
  conv => arg 2; whnf
  go_loopw [13] (fun i wr => ∃ (t : Nat) (s' : S8 64), t ≤ 80 ∧ Hid (s' = k512.rnd W s0 t) ∧ i = .int .i64 t ∧ wr.rowIs vb 83 8 (w64 s'.at) ∧ wr.rowIs wb 104 80 (w64 W) ∧
    wr.rowIs rb 104 80 (w64 K64) ∧ wr.rowIs hb 83 8 (w64 s0.at) ∧ w3.grownBy wr (some hb)) (fun i _ => 80 - (intOf i).toNat)
  case atStart => exact ⟨0, s0, by omega, rfl, rfl, hV0, hW0, hR0, hH0, hg0⟩
  case round =>
    clear hV0 hW0 hR0 hH0 hg0
    obtain ⟨t, s', ht, HS, rfl, hV, hWr, hRr, hH, hg⟩ := hrel
    by_cases hlt6 : t < 80
    · clear hK
      have v0 : wr.cell? ⟨vb, 0, none⟩ = some (.int .u64 (s'.a.toNat : Int)) := hV.cell (i := 0) (by omega)
      have v1 : wr.cell? ⟨vb, 1, none⟩ = some (.int .u64 (s'.b.toNat : Int)) := hV.cell (i := 1) (by omega)
      have v2 : wr.cell? ⟨vb, 2, none⟩ = some (.int .u64 (s'.c.toNat : Int)) := hV.cell (i := 2) (by omega)
      have v3 : wr.cell? ⟨vb, 3, none⟩ = some (.int .u64 (s'.d.toNat : Int)) := hV.cell (i := 3) (by omega)
      have v4 : wr.cell? ⟨vb, 4, none⟩ = some (.int .u64 (s'.e.toNat : Int)) := hV.cell (i := 4) (by omega)
      have v5 : wr.cell? ⟨vb, 5, none⟩ = some (.int .u64 (s'.f.toNat : Int)) := hV.cell (i := 5) (by omega)
      have v6 : wr.cell? ⟨vb, 6, none⟩ = some (.int .u64 (s'.g.toNat : Int)) := hV.cell (i := 6) (by omega)
      have v7 : wr.cell? ⟨vb, 7, none⟩ = some (.int .u64 (s'.h.toNat : Int)) := hV.cell (i := 7) (by omega)
      have cw : wr.cell? ⟨wb, t, none⟩ = some (.int .u64 ((W t).toNat : Int)) := hWr.cell (by omega)
      have ck : wr.cell? ⟨rb, t, none⟩ = some (.int .u64 ((K64 t).toNat : Int)) := hRr.cell (by omega)
      have b2 : (t : Int) < 80 := by omega
      have b3 : (t : Int) < 80 := by omega
      have hs : IntKind.u32.signed = false := rfl
      have hs2 : IntKind.u64.signed = false := rfl
      go_wp2
      go_quiet ((go_at_call 74; exact Calls.quiet_of (rot64_lit _ _ _ (by omega) (by omega))))
      clear v0 v1 v2 v3 v4 v5 v6 v7 cw ck
      replace hWr : (wr.drewN nq).rowIs wb 104 80 _ := hWr
      replace hH : (wr.drewN nq).rowIs hb 83 8 _ := hH
      replace hV : (wr.drewN nq).rowIs vb 83 8 _ := hV
      replace hRr : (wr.drewN nq).rowIs rb 104 80 _ := hRr
      replace hg := gb_drew hg nq
      generalize wr.drewN nq = wz at hWr hH hV hRr hg ⊢
      have v0 : wz.cell? ⟨vb, 0, none⟩ = some (.int .u64 (s'.a.toNat : Int)) := hV.cell (i := 0) (by omega)
      have v1 : wz.cell? ⟨vb, 1, none⟩ = some (.int .u64 (s'.b.toNat : Int)) := hV.cell (i := 1) (by omega)
      have v2 : wz.cell? ⟨vb, 2, none⟩ = some (.int .u64 (s'.c.toNat : Int)) := hV.cell (i := 2) (by omega)
      have v3 : wz.cell? ⟨vb, 3, none⟩ = some (.int .u64 (s'.d.toNat : Int)) := hV.cell (i := 3) (by omega)
      have v4 : wz.cell? ⟨vb, 4, none⟩ = some (.int .u64 (s'.e.toNat : Int)) := hV.cell (i := 4) (by omega)
      have v5 : wz.cell? ⟨vb, 5, none⟩ = some (.int .u64 (s'.f.toNat : Int)) := hV.cell (i := 5) (by omega)
      have v6 : wz.cell? ⟨vb, 6, none⟩ = some (.int .u64 (s'.g.toNat : Int)) := hV.cell (i := 6) (by omega)
      have v7 : wz.cell? ⟨vb, 7, none⟩ = some (.int .u64 (s'.h.toNat : Int)) := hV.cell (i := 7) (by omega)
      obtain ⟨tt, htt⟩ : ∃ tt : BitVec 64, tt = W t + (s'.h + tri s'.e 14 18 41 + chz s'.e s'.f s'.g + K64 t) := ⟨_, rfl⟩
      have ett := ref_t64 (W t) s'.h (tri s'.e 14 18 41) (chz s'.e s'.f s'.g) t
      have ht1 := tri_val64 s'.e
      have ht3 := chz_val64 s'.e s'.f s'.g
      rw [ht1, ht3]
      rw [← htt] at ett
      rw [ett]
      have HTT := Lib.hid htt
      clear htt ett ht1 ht3
      go_wp2
      go_quiet ((go_at_call 74; exact Calls.quiet_of (rot64_lit _ _ _ (by omega) (by omega))))
      obtain ⟨uu, huu⟩ : ∃ uu : BitVec 64, uu = tri s'.a 28 34 39 + maj s'.a s'.b s'.c := ⟨_, rfl⟩
      have euu := ref_u64 (tri s'.a 28 34 39) (maj s'.a s'.b s'.c)
      have ht2 := tri_val64 s'.a
      have ht4 := maj_val64 s'.a s'.b s'.c
      rw [ht2, ht4]
      rw [← huu] at euu
      rw [euu]
      have HUU := Lib.hid huu
      clear huu euu ht2 ht4
      clear v7
      replace hWr : (wz.drewN nq).rowIs wb 104 80 _ := hWr
      replace hH : (wz.drewN nq).rowIs hb 83 8 _ := hH
      replace hV : (wz.drewN nq).rowIs vb 83 8 _ := hV
      replace hRr : (wz.drewN nq).rowIs rb 104 80 _ := hRr
      replace hg := gb_drew hg nq
      generalize wz.drewN nq = wy at hWr hH hV hRr hg ⊢
      clear v0 v1 v2 v3 v4 v5 v6
      have v0 : wy.cell? ⟨vb, 0, none⟩ = some (.int .u64 (s'.a.toNat : Int)) := hV.cell (i := 0) (by omega)
      have v1 : wy.cell? ⟨vb, 1, none⟩ = some (.int .u64 (s'.b.toNat : Int)) := hV.cell (i := 1) (by omega)
      have v2 : wy.cell? ⟨vb, 2, none⟩ = some (.int .u64 (s'.c.toNat : Int)) := hV.cell (i := 2) (by omega)
      have v3 : wy.cell? ⟨vb, 3, none⟩ = some (.int .u64 (s'.d.toNat : Int)) := hV.cell (i := 3) (by omega)
      have v4 : wy.cell? ⟨vb, 4, none⟩ = some (.int .u64 (s'.e.toNat : Int)) := hV.cell (i := 4) (by omega)
      have v5 : wy.cell? ⟨vb, 5, none⟩ = some (.int .u64 (s'.f.toNat : Int)) := hV.cell (i := 5) (by omega)
      have v6 : wy.cell? ⟨vb, 6, none⟩ = some (.int .u64 (s'.g.toNat : Int)) := hV.cell (i := 6) (by omega)
      have v7 : wy.cell? ⟨vb, 7, none⟩ = some (.int .u64 (s'.h.toNat : Int)) := hV.cell (i := 7) (by omega)
      go_wp2_with (first
        | refine wpList_build_arr rfl 83 _ rfl (arrOf 8 (sel64 (((tt.toNat : Int) + uu.toNat) % 18446744073709551616) s'.a.toNat s'.b.toNat s'.c.toNat (((s'.d.toNat : Int) + tt.toNat) % 18446744073709551616) s'.e.toNat s'.f.toNat s'.g.toNat)) (by kernel_rfl) ?_
        | (refine wpList_store_arr rfl 83 (.tmp 12) (.tmp 202) rfl 8 arr8_64 hV rfl rfl (by omega) (sel64_one _ _ _ _ _ _ _ _) ?_; intro w6 hV6 hg6 hs6))
      go_roundw
      case rel =>
        (try ((repeat apply Exists.intro); refine ⟨?_, rfl⟩))
        refine ⟨t + 1, k512.step (k512.num t) (W t) s', by omega, by rw [HS.out]; rfl, by go_num, hV6.congr fun i hi => ?_, gb_rowIs hWr hg6 hwv, gb_rowIs hRr hg6 hrv, gb_rowIs hH hg6 hvn, gb_row hg hg6 hvb⟩
        unfold putN
        rw [if_pos (by omega), Nat.sub_zero]
        refine sel64_state (k512.step (k512.num t) (W t) s') _ _ _ _ _ _ _ _ ?_ rfl rfl rfl ?_ rfl rfl rfl i hi
        · refine (add64 tt uu).trans ?_
          rw [HTT.out, HUU.out, ← BitVec.add_assoc]
          rfl
        · refine (add64 s'.d tt).trans ?_
          rw [HTT.out]
          rfl
      case measure => simp [intOf]; omega
    · obtain rfl : t = 80 := by omega
      go_wp2
      exact ⟨by rw [← HS.out]; exact hV, hWr, hRr, hH, hg⟩

end Go.Proofs.YtonhpmaiagbheaaGreat

/- The document's sums: the state behind the rounds is added. -/
set_option linter.unusedSimpArgs false
set_option linter.unusedVariables false
namespace Go.Proofs.YtonhpmaiagbheaaGreat
open Go.RowKit Go.Deep

set_option maxHeartbeats 16000000 in
set_option maxRecDepth 100000 in
theorem ref512_L7 {Q : Exit → Act → World → Prop} (w3 : World) (hb vb : Nat) (s0 s1 : S8 64) {u0 u1 u2 u3 u5 u6 u7 u8 u9 u10 u11 u13 u14 u15 u16 u17 u19 u20 u21 u22 u23 u24 u25 u26 u27 u28 u29 u30 u31 u32 u33 u34 u35 u36 u37 u38 u39 u40 u41 u42 u43 u44 u45 u46 u47 u48 u49 u50 u51 u52 u53 u54 u55 u56 u57 u58 u59 u60 u61 u62 u63 u64 u65 u66 u67 u68 u69 u70 u71 u72 u73 u74 u75 u76 u77 u78 u79 u80 u81 u82 u83 u84 u85 u86 u87 u88 u89 u90 u91 u92 u93 u94 u95 u96 u97 u98 u99 u100 u101 u102 u103 u104 u105 u106 u107 u108 u109 u110 u111 u112 u113 u114 u115 u116 u117 u118 u119 u120 u121 u122 u123 u124 u125 u126 u127 u128 u129 u130 u131 u132 u133 u134 u135 u136 u137 u138 u139 u140 u141 u142 u143 u144 u145 u146 u147 u148 u149 u150 u151 u152 u153 u154 u155 u156 u157 u158 u159 u160 u161 u162 u163 u164 u165 u166 u167 u168 u169 u170 u171 u172 u173 u174 u175 u176 u177 u178 u179 u180 u181 u182 u183 u184 u185 u186 u187 u188 u189 u190 u191 u192 u193 u194 u195 u196 u197 u198 u199 u200 u201 u202 u203 u204 u205 u206 u207 u208 u209 u210 u211 u212 u213 u214 u215 u216 u217 u218 u219 u220 u221 u222 u223 u224 u225 u226 : Value} {wq : World} (hvn : hb ≠ vb) (hV0 : wq.rowIs vb 83 8 (w64 s1.at)) (hH0 : wq.rowIs hb 83 8 (w64 s0.at)) (hg0 : w3.grownBy wq (some hb))
    (hK : ∀ (x18 x203 x204 x205 x206 x207 x208 x209 x210 x211 x212 x213 x214 x215 : Value) (w' : World), (w'.rowIs hb 83 8 (w64 (S8.add s0 s1).at) ∧ w3.grownBy w' (some hb)) → Q (.exit 10) ⟨(List.toArray (u0 :: u1 :: u2 :: u3 :: (.pointer (some ⟨hb, 0, none⟩)) :: u5 :: u6 :: u7 :: u8 :: u9 :: u10 :: u11 :: (.pointer (some ⟨vb, 0, none⟩)) :: u13 :: u14 :: u15 :: u16 :: u17 :: x18 :: u19 :: u20 :: u21 :: u22 :: u23 :: u24 :: u25 :: u26 :: u27 :: u28 :: u29 :: u30 :: u31 :: u32 :: u33 :: u34 :: u35 :: u36 :: u37 :: u38 :: u39 :: u40 :: u41 :: u42 :: u43 :: u44 :: u45 :: u46 :: u47 :: u48 :: u49 :: u50 :: u51 :: u52 :: u53 :: u54 :: u55 :: u56 :: u57 :: u58 :: u59 :: u60 :: u61 :: u62 :: u63 :: u64 :: u65 :: u66 :: u67 :: u68 :: u69 :: u70 :: u71 :: u72 :: u73 :: u74 :: u75 :: u76 :: u77 :: u78 :: u79 :: u80 :: u81 :: u82 :: u83 :: u84 :: u85 :: u86 :: u87 :: u88 :: u89 :: u90 :: u91 :: u92 :: u93 :: u94 :: u95 :: u96 :: u97 :: u98 :: u99 :: u100 :: u101 :: u102 :: u103 :: u104 :: u105 :: u106 :: u107 :: u108 :: u109 :: u110 :: u111 :: u112 :: u113 :: u114 :: u115 :: u116 :: u117 :: u118 :: u119 :: u120 :: u121 :: u122 :: u123 :: u124 :: u125 :: u126 :: u127 :: u128 :: u129 :: u130 :: u131 :: u132 :: u133 :: u134 :: u135 :: u136 :: u137 :: u138 :: u139 :: u140 :: u141 :: u142 :: u143 :: u144 :: u145 :: u146 :: u147 :: u148 :: u149 :: u150 :: u151 :: u152 :: u153 :: u154 :: u155 :: u156 :: u157 :: u158 :: u159 :: u160 :: u161 :: u162 :: u163 :: u164 :: u165 :: u166 :: u167 :: u168 :: u169 :: u170 :: u171 :: u172 :: u173 :: u174 :: u175 :: u176 :: u177 :: u178 :: u179 :: u180 :: u181 :: u182 :: u183 :: u184 :: u185 :: u186 :: u187 :: u188 :: u189 :: u190 :: u191 :: u192 :: u193 :: u194 :: u195 :: u196 :: u197 :: u198 :: u199 :: u200 :: u201 :: u202 :: x203 :: x204 :: x205 :: x206 :: x207 :: x208 :: x209 :: x210 :: x211 :: x212 :: x213 :: x214 :: x215 :: u216 :: u217 :: u218 :: u219 :: u220 :: u221 :: u222 :: u223 :: u224 :: u225 :: u226 :: [])), []⟩ w') :
    Code.wp Tryz.prog (codeAt 10 Tryz.f29) Q ⟨(List.toArray (u0 :: u1 :: u2 :: u3 :: (.pointer (some ⟨hb, 0, none⟩)) :: u5 :: u6 :: u7 :: u8 :: u9 :: u10 :: u11 :: (.pointer (some ⟨vb, 0, none⟩)) :: u13 :: u14 :: u15 :: u16 :: u17 :: (.int .i64 (0 : Int)) :: u19 :: u20 :: u21 :: u22 :: u23 :: u24 :: u25 :: u26 :: u27 :: u28 :: u29 :: u30 :: u31 :: u32 :: u33 :: u34 :: u35 :: u36 :: u37 :: u38 :: u39 :: u40 :: u41 :: u42 :: u43 :: u44 :: u45 :: u46 :: u47 :: u48 :: u49 :: u50 :: u51 :: u52 :: u53 :: u54 :: u55 :: u56 :: u57 :: u58 :: u59 :: u60 :: u61 :: u62 :: u63 :: u64 :: u65 :: u66 :: u67 :: u68 :: u69 :: u70 :: u71 :: u72 :: u73 :: u74 :: u75 :: u76 :: u77 :: u78 :: u79 :: u80 :: u81 :: u82 :: u83 :: u84 :: u85 :: u86 :: u87 :: u88 :: u89 :: u90 :: u91 :: u92 :: u93 :: u94 :: u95 :: u96 :: u97 :: u98 :: u99 :: u100 :: u101 :: u102 :: u103 :: u104 :: u105 :: u106 :: u107 :: u108 :: u109 :: u110 :: u111 :: u112 :: u113 :: u114 :: u115 :: u116 :: u117 :: u118 :: u119 :: u120 :: u121 :: u122 :: u123 :: u124 :: u125 :: u126 :: u127 :: u128 :: u129 :: u130 :: u131 :: u132 :: u133 :: u134 :: u135 :: u136 :: u137 :: u138 :: u139 :: u140 :: u141 :: u142 :: u143 :: u144 :: u145 :: u146 :: u147 :: u148 :: u149 :: u150 :: u151 :: u152 :: u153 :: u154 :: u155 :: u156 :: u157 :: u158 :: u159 :: u160 :: u161 :: u162 :: u163 :: u164 :: u165 :: u166 :: u167 :: u168 :: u169 :: u170 :: u171 :: u172 :: u173 :: u174 :: u175 :: u176 :: u177 :: u178 :: u179 :: u180 :: u181 :: u182 :: u183 :: u184 :: u185 :: u186 :: u187 :: u188 :: u189 :: u190 :: u191 :: u192 :: u193 :: u194 :: u195 :: u196 :: u197 :: u198 :: u199 :: u200 :: u201 :: u202 :: u203 :: u204 :: u205 :: u206 :: u207 :: u208 :: u209 :: u210 :: u211 :: u212 :: u213 :: u214 :: u215 :: u216 :: u217 :: u218 :: u219 :: u220 :: u221 :: u222 :: u223 :: u224 :: u225 :: u226 :: [])), []⟩ wq := by
  conv => arg 2; whnf
  go_loopw [18] (fun i wr => ∃ t : Nat, t ≤ 8 ∧ i = .int .i64 t ∧ wr.rowIs hb 83 8 (fun i => .int .u64 ((if i < t then s0.at i + s1.at i else s0.at i).toNat : Int)) ∧
    wr.rowIs vb 83 8 (w64 s1.at) ∧ w3.grownBy wr (some hb)) (fun i _ => 8 - (intOf i).toNat)
  case atStart => exact ⟨0, by omega, rfl, hH0.congr fun i _ => rfl, hV0, hg0⟩
  case round =>
    clear hV0 hH0 hg0
    obtain ⟨t, ht, rfl, hH, hV, hg⟩ := hrel
    by_cases hlt7 : t < 8
    · clear hK
      have c0 := hH.cell (i := t) (by omega)
      rw [if_neg (by omega)] at c0
      have c1 : wr.cell? ⟨vb, t, none⟩ = some (.int .u64 ((s1.at t).toNat : Int)) := hV.cell hlt7
      have hfr := hH.frozen t
      have b2 : (t : Int) < 8 := by omega
      go_wp2
      go_region
      go_wp2
      go_roundw
      case rel =>
        (try ((repeat apply Exists.intro); refine ⟨?_, rfl⟩))
        refine ⟨t + 1, by omega, by go_num, (hH.set t _).congr fun i hi => ?_, hV.setOther (Ne.symm hvn) _, ?_⟩
        · show (if i = t then _ else _) = _
          by_cases e : i = t
          · subst e
            rw [if_pos rfl, if_pos (by omega)]
            exact congrArg (Value.int .u64) (add64 _ _)
          · rw [if_neg e]
            by_cases h2 : i < t
            · rw [if_pos h2, if_pos (by omega)]
            · rw [if_neg h2, if_neg (by omega)]
        · first | exact gb_drew (gb_setb hg _) _ | exact gb_setb (gb_drew hg _) _ | exact gb_setb hg _
      case measure => simp [intOf]; omega
    · obtain rfl : t = 8 := by omega
      go_wp2
      refine ⟨hH.congr fun i hi => ?_, hg⟩
      rw [if_pos hi]
      show _ = Value.int .u64 (((S8.add s0 s1).at i).toNat : Int)
      rw [S8.at_add]

end Go.Proofs.YtonhpmaiagbheaaGreat

/- 'append(m, make([]byte, k)...)', m the call's own: the translation hands the builtin the number. -/
set_option linter.unusedSimpArgs false
set_option linter.unusedVariables false
namespace Go.Proofs.YtonhpmaiagbheaaGreat
open Go.RowKit Go.Deep

theorem u8s_zeros (k : Nat) : u8s (List.replicate k 0) = (Builtin.zeroCells (Value.int .u8 0).cells k).toList := by
  apply List.ext_getElem?
  intro i
  by_cases h : i < k
  · simp [u8s, Builtin.zeroCells, Value.cells, h, Nat.mod_one]
  · simp [u8s, Builtin.zeroCells, Value.cells, h]

theorem run_app_zeros {w : World} {base : Nat} {v : Value} {l : List UInt8} (hown : Owns w base v l) (hl0 : 0 < l.length) (k : Nat) (hk : 0 < k) (hlen : l.length + k ≤ 2147483647) (hbase : base ≤ w.heap.size) (ty : TypeId) :
    ∃ v' w', (Builtin.append_ #[22, 3] ty #[v, .int .i64 (k : Int)]).run Tryz.prog w = .ok v' w' ∧ Owns w' base v' (l ++ List.replicate k 0) ∧ w.grownBy w' v.ownBlock := by
  obtain ⟨i, hi, hz, hs1, hb1⟩ := info_parts Try.info5
  have ht : Tryz.prog.underlying 22 = some (.slice 5) := Tryz.underlying22
  have htn : Tryz.prog.underlying 3 = some (.int .i64) := Tryz.underlying3
  obtain ⟨news, hnews⟩ : ∃ news, news = u8s (List.replicate k 0) := ⟨_, rfl⟩
  have hnl : news.length = k := by rw [hnews, u8s_length, List.length_replicate]
  have hzc : (Builtin.zeroCells (Value.int .u8 0).cells k).toList = news := by rw [hnews, u8s_zeros]
  have h1 : ∀ u ∈ news, u.oneCell' = true := by
    intro u hu
    rw [hnews] at hu
    simp only [u8s, List.mem_map] at hu
    obtain ⟨b, _, rfl⟩ := hu
    rfl
  have hxs : u8s (l ++ List.replicate k 0) = u8s l ++ news := by rw [u8s_append, hnews]
  have hlen2 : (l ++ List.replicate k (0 : UInt8)).length = l.length + k := by simp
  have hw : IntKind.i64.wrap (k : Int) = k := IntWalk.i64_in _ (by omega)
  have hneg : ¬ ((k : Int) < 0) := by omega
  have h48i : ¬ (281474976710656 < (k : Int) * (i.bytes : Int)) := by rw [hb1]; omega
  have hk0 : k ≠ 0 := by omega
  rcases hown.2 with ⟨rfl, hn⟩ | ⟨g, cap, cur, rfl, hbg, hg, hnc, hcm, hcs, htake⟩
  · omega
  · by_cases hroom : l.length + k ≤ cap
    · have hfit : l.length + news.length ≤ cur.size := by rw [hnl, hcs]; omega
      have hst := Go.run_storeCells_at Tryz.prog g l.length 5 news 0 cur w hg (by simpa using hfit) h1
      simp only [Nat.add_zero] at hst
      refine ⟨.slice (some ⟨g, 0, none⟩) (l.length + k) cap, w.setRow g (cur.toList.take l.length ++ news ++ cur.toList.drop (l.length + news.length)).toArray, ?_, ?_, ?_⟩
      · simp [Builtin.append_, run_underlying ht, run_underlying htn, sizeOf, typeInfo, zeroValue, hi, hz, hs1, asInt, asIntOf, hw, hneg, h48i, hk0, hroom, Addr.add_lit, hzc, hst]
      · unfold Owns
        rw [hxs, hlen2]
        refine ⟨by rw [List.length_append, u8s_length, hnl]; omega, .inr ⟨g, cap, _, rfl, hbg, setRow_heap w g cur _ 5 _ hg, hroom, hcm, ?_, ?_⟩⟩
        · simp only [List.size_toArray, List.length_append, List.length_take, List.length_drop, Array.length_toList]
          omega
        · have htake' : cur.toList.take l.length = u8s l := by simpa using htake
          simp only [Nat.mul_one]
          rw [htake']
          have e : (u8s l ++ news).length = l.length + k := by rw [List.length_append, u8s_length, hnl]
          rw [← e]
          exact List.take_left
      · exact ⟨rfl, rfl, rfl, by simp, fun j _ hj => setRow_other w g j _ (fun e => hj (by simp [Value.ownBlock, e]))⟩
    · have holds : ∀ j u, (u8s l)[j]? = some u → w.drew.cell? ((⟨g, 0, none⟩ : Addr).add j) = some u := World.ownsRow.cells hown (g := g) rfl
      have hfo := run_firstCells_some (P := Tryz.prog) w.drew 1 l.length ⟨g, 0, none⟩ l.length cap (u8s l) (by rw [u8s_length]; omega) holds
      have h63' : ¬ (9223372036854775807 < ((l.length : Int) + (k : Int))) := by omega
      have h48' : ¬ (281474976710656 < Builtin.nextslicecap (l.length + k) cap * i.bytes) := by
        have := growslice_fits (need := l.length + k) (old := cap) (bytes := i.bytes) (by omega) (by rw [hb1]; omega)
        omega
      obtain ⟨N, hN⟩ : ∃ N, N = (u8s l).toArray ++ Builtin.zeroCells (Value.int .u8 0).cells k ++ Builtin.zeroCells (Value.int .u8 0).cells (grownCap w (l.length + k) cap 5 - (l.length + k)) := ⟨_, rfl⟩
      have hge := grownCap_ge w (l.length + k) cap 5
      have hcm2 : grownCap w (l.length + k) cap 5 ≤ maxLen := grownCap_le_maxLen w _ _ _ (by unfold maxLen; omega)
      have hNl : N.toList = u8s l ++ (news ++ (Builtin.zeroCells (Value.int .u8 0).cells (grownCap w (l.length + k) cap 5 - (l.length + k))).toList) := by
        rw [hN]; simp only [Array.toList_append, hzc, List.append_assoc]
      refine ⟨.slice (some ⟨w.heap.size, 0, none⟩) (l.length + k) (grownCap w (l.length + k) cap 5), w.drew.alloc (.cells N 5), ?_, ?_, ⟨rfl, rfl, rfl, by simp, fun j hj _ => Below.heap_alloc w.drew _ j hj⟩⟩
      · rw [hN]
        simp [Builtin.append_, run_underlying ht, run_underlying htn, sizeOf, typeInfo, zeroValue, hi, hz, hs1, asInt, asIntOf, hw, hneg, h48i, hk0, hroom, h63', h48', Question.forced, hfo, newRow, grownCap]
      · unfold Owns
        rw [hxs, hlen2]
        refine ⟨by rw [List.length_append, u8s_length, hnl]; omega, .inr ⟨w.heap.size, _, N, rfl, hbase, heap_alloc_new w.drew _, hge, hcm2, ?_, ?_⟩⟩
        · have := congrArg List.length hNl
          simp only [Array.length_toList, List.length_append, u8s_length, hnl, size_zeroCells] at this
          rw [this]
          simp [Value.cells]
          omega
        · rw [hNl, ← List.append_assoc]
          have e : (u8s l ++ news).length = l.length + k := by rw [List.length_append, u8s_length, hnl]
          simp only [Nat.mul_one]
          rw [← e]
          exact List.take_left
end Go.Proofs.YtonhpmaiagbheaaGreat

/- The document's own Sum512. -/
set_option linter.unusedSimpArgs false
set_option linter.unusedVariables false
namespace Go.Proofs.YtonhpmaiagbheaaGreat
open Go.RowKit Go.Deep

set_option maxHeartbeats 16000000 in
set_option maxRecDepth 100000 in
theorem ref512_any (v : Value) (l : List UInt8) (w : World) (hv : Bs w v l) (hlen : l.length < 2 ^ 30) :
    Calls Tryz.prog 29 #[v] w fun e w' => ∃ v', e = .returned v' ∧ Bs w' v' (k512.sum l) ∧ Below w.heap.size w w' := by
  obtain ⟨a, n, cap, rfl, hn, hc1, hc2, hB0⟩ := hv.shape
  have HV := Lib.hid hB0
  have HN := Lib.hid hn
  have hn30 : n < 2 ^ 30 := by omega
  clear hv hB0 hn
  go_enter Tryz.func29, Tryz.ntmps29
  go_wp2_with (first
    | (go_at_call 70; refine (refRounds_any _).mono ?_; rintro e w1 ⟨rfl, hb1⟩
       have hR := rowIs_arr w1 80 (fun _ => .int .u64 0) 104
       have hb := hb1.alloc hb1.size (.cells (arrOf 80 fun _ => .int .u64 0) 104)
       have hsz1 := hb1.size
       clear hb1)
    | refine wpList_alloc_arr rfl 104 rfl (arrOf 80 fun _ => .int .u64 0) zero80 ?_
    | (refine wpList_store_arr rfl 104 (.tmp 3) (.tmp 21) rfl 80 arr80 hR rfl rfl (by omega) (fun _ _ => rfl) ?_; intro w2 hr2 hg2 hs2
       replace hb := hb.grown hg2 hb.size (by intro k hk; cases hk; exact hsz1)
       replace hR := hr2.congr (g := w64 K64) (fun i hi => by unfold putN; rw [if_pos (by omega)]; rfl)
       clear hr2 hg2 hs2)
    | (go_at_call 71; refine (refStart_any _).mono ?_; rintro e w3 ⟨rfl, hb3⟩
       have hlt1 := hR.lt
       replace hR := (hR.of_block (hb3.block _ hR.lt)).alloc (.cells (arrOf 8 fun _ => .int .u64 0) 83)
       replace hb := hb.trans (hb3.mono hb.size)
       have hsz3 := hb.size
       replace hb := hb.alloc hb.size (.cells (arrOf 8 fun _ => .int .u64 0) 83)
       have hF := rowIs_arr w3 8 (fun _ => .int .u64 0) 83
       have hne41 : w3.heap.size ≠ w1.heap.size := by have := hb3.size; omega
       clear hb3)
    | refine wpList_alloc_arr rfl 83 rfl (arrOf 8 fun _ => .int .u64 0) zero8_64 ?_
    | (refine wpList_store_arr rfl 83 (.tmp 4) (.tmp 22) rfl 8 arr8_64 hF rfl rfl (by omega) (fun _ _ => rfl) ?_; intro wr hr4 hg4 hs4
       replace hR := hR.of_block (hg4.block _ hR.lt (fun e => hne41 (Option.some.inj e).symm))
       replace hb := (hb.grown hg4 hb.size (by intro k hk; cases hk; exact hsz3))
       have hH : wr.rowIs w3.heap.size 83 8 (w64 k512.first.at) := hr4.congr (fun i hi => by
         unfold putN
         rw [if_pos (by omega), Nat.sub_zero]
         show Value.int .u64 ((I64 i).toNat : Int) = Value.int .u64 (((S8.of I64).at i).toNat : Int)
         rw [S8.at_of _ _ hi])
       have hO := Owns.empty wr
       have hb8 : Below wr.heap.size wr (wr.alloc (.cells #[] 5)) := (Below.refl _ _).alloc (Nat.le_refl _) _
       have HB := Lib.hid ((HV.out.below hb (Nat.le_refl _)).below hb8 (Nat.le_refl _))
       clear hr4 hg4 hs4)
    | (refine wpList_app rfl (.tmp 23) (.tmp 24) rfl wr.heap.size _ _ [] l hO HB.out rfl rfl (by simp; omega) (by simp) ?_; intro v5 w5 hO5 hg5
       have hb5 := hb8.grown hg5 (by simp) (Owns.block hO)
       have hB1 := Bs.one w5 128
       clear hO HB hg5)
    | (refine wpList_app rfl (.tmp 25) (.tmp 26) rfl wr.heap.size _ _ ([] ++ l) [128] (Owns.alloc hO5 _) hB1 rfl rfl (by simp; omega) (by have := hb5.size; simp; omega) ?_; intro v6 w6 hO6 hg6
       have hb6 := (hb5.alloc hb5.size (.cells #[.int .u8 ((128 : UInt8).toNat : Int)] 5)).grown hg6 (by have := hb5.size; simp; omega) (Owns.block hO5)
       clear hO5 hg6 hB1))
  generalize w1.heap.size = rb at *
  generalize w3.heap.size = hb' at *
  have hR8 := hR
  have hH8 := hH
  have hbw8 := hb
  generalize hb8e : wr.heap.size = b8 at *
  have HN8 := Lib.hid hb8e
  clear hb8e hb8 hb5 hR hH hb
  have hbt : Below b8 wr w6 := hb6
  go_loopw [5] (fun m wq => ∃ z : Nat, z ≤ endRoom n 128 - 17 ∧ Owns wq b8 m ([] ++ l ++ [128] ++ List.replicate z 0) ∧ Below b8 wr wq) (fun m _ => n + 1 + (endRoom n 128 - 17) - lenOf m)
  case atStart => exact ⟨0, Nat.zero_le _, by simpa using hO6, hbt⟩
  case round =>
    clear hO6 hb6 hbt
    obtain ⟨z, hz, hO, hbq⟩ := hrel
    have hml : ([] ++ l ++ [128] ++ List.replicate z (0 : UInt8)).length = n + 1 + z := by simp; have := HN.out; omega
    obtain ⟨am, cm, hme⟩ := hO.shape
    rw [hml] at hme
    subst hme
    have hroom := room128 n z hz
    have hr2 := (endRoom_ge n 128 (by omega))
    have hB := Bs.one wr 0
    have hba := hbq.alloc (by have := hbq.size; have := HN8.out; omega) (.cells #[.int .u8 ((0 : UInt8).toNat : Int)] 5)
    have hsq : b8 ≤ wr.heap.size := by have := hbq.size; have := HN8.out; omega
    by_cases hzz : z = endRoom n 128 - 17
    · have hI : ((n : Int) + 1 + (z : Int)) % 128 = 112 := by
        have := hroom.2 hzz
        omega
      have HZ := Lib.hid hzz
      clear hzz hroom hB hba
      have hO1 := hO
      have hmn : IntKind.u64.wrap ((n : Int) * 8) = ((8 * n : Nat) : Int) := by rw [IntWalk.u64_in _ (by omega)]; omega
      obtain ⟨vz, wz, hrz, hOz, hgz⟩ := run_app_zeros hO1 (by rw [hml]; omega) 8 (by omega) (by rw [hml]; omega) hsq 22
      have hrz8 : (Builtin.append_ #[22, 3] 22 #[.slice am (n + 1 + z) cm, .int .i64 8]).run Tryz.prog wr = .ok vz wz := hrz
      clear hrz
      have hbz := hbq.grown hgz hsq (Owns.block hO1)
      have hsz := Nat.le_trans hsq hgz.size
      have hmlz : (([] ++ l ++ [128] ++ List.replicate z 0) ++ List.replicate 8 (0 : UInt8)).length = n + 1 + z + 8 := by rw [List.length_append, hml, List.length_replicate]
      have hzz8 : ([] ++ l ++ [128] ++ List.replicate z 0) ++ List.replicate 8 (0 : UInt8) = [] ++ l ++ [128] ++ List.replicate (z + 8) 0 := by rw [List.append_assoc, List.replicate_append_replicate]
      clear hO1 hO
      go_wp2_with (first
        | (refine Lib.wpList_append_run _ rfl (.tmp 35) (.const (.int .i64 8)) 22 3 rfl (.slice am (n + 1 + z) cm) (.int .i64 8) rfl rfl vz wz hrz8 ?_)
        | (go_at_call 72; refine (refBig_any (8 * n) 8 _ (by omega) (by omega) (by omega)).mono ?_; rintro e w2 ⟨v2, rfl, hB2, hb2⟩
           have hO2 := hOz.below hb2
           have hbq2 := hbz.trans (hb2.mono hsz)
           have hsq2 := Nat.le_trans hsz hb2.size
           clear hb2)
        | (refine wpList_app rfl (.tmp 36) (.tmp 41) rfl b8 _ _ _ _ hO2 hB2 rfl rfl (by rw [hmlz, bigB_length]; omega) hsq2 ?_; intro v3 w3 hO3 hg3))
      have hbw : Below w.heap.size w w3 := (hbw8.trans (hbq2.mono (by have := HN8.out; have := hbw8.size; omega))).grown hg3 (by have := hbw8.size; have := HN8.out; omega) (fun r hr => by have := Owns.block hO2 r hr; have := hbw8.size; have := HN8.out; omega)
      have hb83 : Below b8 _ w3 := hbq2.grown hg3 hsq2 (Owns.block hO2)
      have hR3 := hR8.of_block (hb83.block rb (by have := hR8.lt; have := HN8.out; omega))
      have hH3 := hH8.of_block (hb83.block hb' (by have := hH8.lt; have := HN8.out; omega))
      have hM : ([] ++ l ++ [128] ++ List.replicate z 0) ++ List.replicate 8 0 ++ bigB (8 * n) 8 = k512.pad l := by
        have e1 := HZ.out
        have e2 := HN.out
        subst e2
        have e3 := (endRoom_ge l.length 128 (by omega)).1
        have e4 : 17 ≤ endRoom l.length 128 := by unfold endRoom; split <;> omega
        rw [hzz8, e1, show endRoom l.length 128 - 17 + 8 = endRoom l.length 128 - 9 by omega]
        show _ = l ++ ([128] ++ List.replicate (endRoom l.length 128 - 9) 0 ++ bigB (8 * l.length) 8)
        simp
      rw [show ((8 : Int).toNat) = 8 from rfl, hM] at hO3
      obtain ⟨a3, c3, rfl⟩ := hO3.shape
      have hA3 : Away (.slice a3 (k512.pad l).length c3) hb' := hO3.away (by have := hH8.lt; have := HN8.out; omega)
      have hB3 := Lib.hid hO3.bs
      have hlt3 : hb' < w3.heap.size := hH3.lt
      have hTQ := pad_blocks k512 l (by decide) (.inr rfl)
      have hTmax : (k512.pad l).length < 2 ^ 31 := by
        show (l ++ endOf l.length 128).length < 2 ^ 31
        rw [List.length_append, endOf_length _ _ (by omega)]
        have := (endRoom_ge l.length 128 (by omega)).2
        have := HN.out
        omega
      generalize hMe : k512.pad l = M at *
      have HM := Lib.hid hMe
      clear hMe hO3 hg3 hO2 hB2 hbq2 hb83 hOz hbz hgz hrz8 hsz hsq2 hmlz hzz8 hbq hR8 hH8 hbw8 hml hM HZ hI hz hmn
      obtain ⟨Q, hQ⟩ : ∃ Q, Q = M.length / k512.block := ⟨_, rfl⟩
      rw [← hQ] at hTQ
      replace hTQ : M.length = 128 * Q := hTQ
      generalize hTe : M.length = T at *
      have HT := Lib.hid hTe
      have HQ := Lib.hid hQ
      have HTQ := Lib.hid hTQ
      clear hTe hQ hTQ
      go_loopw [6] (fun p wq => ∃ (j q : Nat), j ≤ Q ∧ Hid (q = 128 * j) ∧ p = .int .i64 (q : Int) ∧ wq.rowIs hb' 83 8 (w64 (k512.state M j).at) ∧ w3.grownBy wq (some hb')) (fun p _ => T - (intOf p).toNat)
      case atStart => exact ⟨0, 0, Nat.zero_le _, rfl, rfl, hH3, grownBy_refl _ _⟩
      case round =>
        obtain ⟨j, q, hj, Hq, rfl, hH, hg⟩ := hrel
        have hqT : q ≤ T := by have := Hq.out; have := HTQ.out; omega
        by_cases hlt : j < Q
        · have hq64 : q + 128 ≤ T := by have := Hq.out; have := HTQ.out; omega
          have hqI : (q : Int) < (T : Int) := by omega
          have hW0 := rowIs_arr wr 80 (fun _ => .int .u64 0) 104
          have hgA := gb_alloc hg (.cells (arrOf 80 fun _ => .int .u64 0) 104)
          have hHA := hH.alloc (.cells (arrOf 80 fun _ => .int .u64 0) 104)
          have hwb : w3.heap.size ≤ wr.heap.size := hg.size
          have hwn : hb' ≠ wr.heap.size := by have := hH.lt; omega
          obtain ⟨W, hW⟩ : ∃ W, W = k512.sched (k512.word ((M.drop (128 * j)).take 128)) := ⟨_, rfl⟩
          have hW16 : ∀ t, t < 16 → W t = BitVec.ofNat 64 (numB ((M.drop (q + 8 * t)).take 8) 8) := fun t ht => by
            rw [hW, Kind.sched_low _ _ _ ht, numB_cut M q (8 * t) 8 128 (by omega), Hq.out]
            rfl
          have hWs : ∀ i, 16 ≤ i → W i = sig (W (i - 2)) 19 61 6 + W (i - 7) + sig (W (i - 15)) 1 8 7 + W (i - 16) := fun i hi => by
            rw [hW, Kind.sched_high _ _ _ hi]
            rfl
          have HWd := Lib.hid hW
          have HW16 := Lib.hid hW16
          have HWs := Lib.hid hWs
          clear hW hW16 hWs
          go_wp2_with (refine wpList_alloc_arr rfl 104 rfl (arrOf 80 fun _ => .int .u64 0) zeroR_64 ?_)
          clear hH hg
          generalize wr.heap.size = wb at *
          refine ref512_L4 w3 hb' wb T c3 q a3 M W (k512.state M j).at hTmax hq64 hB3 hA3 hwb hwn HW16 hW0 hHA hgA ?_
          intros
          rename_i w4 h4
          obtain ⟨hW4, hH4, hg4⟩ := h4
          clear hW0 hHA hgA
          go_wp2
          refine ref512_L5 w3 hb' wb W (k512.state M j).at hwb hwn HWs hW4 hH4 hg4 ?_
          intros
          rename_i w5 h5
          obtain ⟨hW5, hH5, hg5⟩ := h5
          clear hW4 hH4 hg4
          have hRq := gb_rowIs hR3 hg5 (Ne.symm hne41)
          have hV0 := rowIs_arr w5 8 (fun _ => .int .u64 0) 83
          have hHA := hH5.alloc (.cells (arrOf 8 fun _ => .int .u64 0) 83)
          have hWA := hW5.alloc (.cells (arrOf 8 fun _ => .int .u64 0) 83)
          have hRA := hRq.alloc (.cells (arrOf 8 fun _ => .int .u64 0) 83)
          have hgA := gb_alloc hg5 (.cells (arrOf 8 fun _ => .int .u64 0) 83)
          have hvb : w3.heap.size ≤ w5.heap.size := hg5.size
          have hvn : hb' ≠ w5.heap.size := by have := hH5.lt; omega
          have hvw : wb ≠ w5.heap.size := by have := hW5.lt; omega
          have hvr : rb ≠ w5.heap.size := by have := hRq.lt; omega
          obtain ⟨s0, hs0⟩ : ∃ s0, s0 = k512.state M j := ⟨_, rfl⟩
          rw [← hs0] at hH5 hHA
          have HS0 := Lib.hid hs0
          clear hs0
          go_wp2_with (first
            | (refine wpList_load_arr rfl 83 (.tmp 4) rfl 8 arr8_64 hH5 rfl (by omega) ?_; simp only [Nat.zero_add])
            | refine wpList_alloc_arr rfl 83 rfl (arrOf 8 fun _ => .int .u64 0) zero8_64 ?_
            | (refine wpList_store_arr rfl 83 (.tmp 12) (.tmp 120) rfl 8 arr8_64 hV0 rfl rfl (by omega) (fun _ _ => rfl) ?_; intro w6 hV6 hg6 hs6
               replace hV6 := hV6.congr (g := w64 s0.at) (fun i hi => by unfold putN; rw [if_pos (by omega)]; rfl)
               replace hHA := gb_rowIs hHA hg6 hvn
               replace hWA := gb_rowIs hWA hg6 hvw
               replace hRA := gb_rowIs hRA hg6 hvr
               replace hgA := gb_row hgA hg6 hvb
               clear hg6 hs6))
          clear hV0 hH5 hg5 hW5 hRq
          generalize w5.heap.size = vb at *
          refine ref512_L6 w3 rb hb' wb vb W s0 hvb hvn hvw hvr hV6 hWA hRA hHA hgA ?_
          intros
          rename_i w7 h7
          obtain ⟨hV7, hW7, hR7, hH7, hg7⟩ := h7
          clear hV6 hWA hRA hHA hgA
          go_wp2
          refine ref512_L7 w3 hb' vb s0 (k512.rnd W s0 80) hvn hV7 hH7 hg7 ?_
          intros
          rename_i w8 h8
          obtain ⟨hH8, hg8⟩ := h8
          clear hV7 hW7 hR7 hH7 hg7
          have hst : k512.state M (j + 1) = S8.add s0 (k512.rnd W s0 80) := by
            rw [HWd.out, HS0.out]
            rfl
          have HST := Lib.hid hst
          clear hst
          go_wp2
          go_roundw
          case rel => exact ⟨j + 1, q + 128, by omega, by have := Hq.out; show _ = _; omega, by go_num, by rw [HST.out]; exact hH8, hg8⟩
          case measure => simp [intOf]; omega
        · obtain rfl : j = Q := by omega
          have hqI : ¬ (q : Int) < (T : Int) := by have := Hq.out; have := HTQ.out; omega
          have hout : k512.out (k512.state M j) 8 = k512.sum l := by
            have e1 := HQ.out
            have e2 := HT.out
            rw [e1, ← e2, ← HM.out]
            rfl
          have HO := Lib.hid hout
          have hbf : Below w.heap.size w wr := gb_below hbw hg hbw.size (by omega)
          clear hout
          obtain ⟨s0, hs0⟩ : ∃ s0, s0 = k512.state M j := ⟨_, rfl⟩
          rw [← hs0] at hH HO
          clear hs0
          go_wp2
          go_loopw [19, 20] (fun out i wq => ∃ t : Nat, t ≤ 8 ∧ i = .int .i64 t ∧ Owns wq wr.heap.size out (k512.out s0 t) ∧ wq.rowIs hb' 83 8 (w64 s0.at) ∧ Below wr.heap.size wr wq) (fun _ i _ => 8 - (intOf i).toNat)
          case atStart => exact ⟨0, Nat.zero_le _, rfl, Owns.nil _ _, hH, Below.refl _ _⟩
          case round =>
            have hHl := hH.lt
            clear hH
            obtain ⟨t, ht, rfl, hown, hH, hbel⟩ := hrel
            by_cases hlt8 : t < 8
            · have hc : wr.cell? ⟨hb', t, none⟩ = some (.int .u64 ((s0.at t).toNat : Int)) := hH.cell hlt8
              have hol : (k512.out s0 t).length = 8 * t := out_length k512 s0 8 rfl t
              have hb8 : (t : Int) < 8 := by omega
              have hcv : IntKind.u64.wrap ((s0.at t).toNat : Int) = ((s0.at t).toNat : Int) := IntWalk.u64_in _ ⟨by omega, by have := u64_lt (s0.at t); omega⟩
              go_wp2_with (first
                | (go_at_call 72; refine (refBig_any (s0.at t).toNat 8 _ (by have := u64_lt (s0.at t); omega) (by omega) (by omega)).mono ?_; rintro e w5 ⟨v5, rfl, hB5, hb5⟩
                   have hown5 := hown.below hb5
                   have hbel5 := hbel.trans (hb5.mono hbel.size)
                   have hH5 := hH.of_block (hb5.block _ hH.lt)
                   clear hb5)
                | (refine wpList_app rfl (.tmp 220) (.tmp 224) rfl _ _ _ (k512.out s0 t) _ hown5 hB5 rfl rfl (by rw [hol, bigB_length]; omega) hbel5.size ?_; intro v6 w6 hown6 hgrow6))
              have hbel6 := hbel5.grown hgrow6 hbel5.size (Owns.block hown5)
              have hH6 : w6.rowIs hb' 83 8 (w64 s0.at) := hH5.of_block (hgrow6.block _ hH5.lt (fun e => by have := Owns.block hown5 hb' e.symm; omega))
              clear hown5 hgrow6 hB5 hH5
              go_wp2
              go_roundw
              case rel => exact ⟨t + 1, by omega, by go_num, hown6, hH6, hbel6⟩
              case measure => simp [intOf]; omega
            · obtain rfl : t = 8 := by omega
              go_wp2
              go_ret
              exact ⟨_, rfl, by rw [← HO.out]; exact hown.bs, hbf.trans (hbel.mono hbf.size)⟩
    · have hI : ¬ ((n : Int) + 1 + (z : Int)) % 128 = 112 := by
        intro h
        exact hzz (hroom.1 (by omega))
      clear hroom
      go_wp2_with (refine wpList_app rfl (.tmp 32) (.tmp 33) rfl b8 _ _ _ [0] (hO.alloc _) hB rfl rfl (by rw [hml]; simp; omega) (by simp; omega) ?_; intro v3 w3 hO3 hg3)
      have hb3 : Below b8 _ w3 := hba.grown hg3 (by simp; omega) (Owns.block hO)
      go_roundw
      case rel =>
        refine ⟨z + 1, by omega, ?_, hb3⟩
        rw [List.replicate_succ', ← List.append_assoc]
        exact hO3
      case measure =>
        obtain ⟨a3, c3, rfl⟩ := hO3.shape
        simp [lenOf]
        have := HN.out
        omega
end Go.Proofs.YtonhpmaiagbheaaGreat

/- HMAC and HKDF in words: what both the program's and the document's are walked to; no world in it. -/
set_option linter.unusedSimpArgs false
set_option linter.unusedVariables false
namespace Go.Proofs.YtonhpmaiagbheaaGreat
open Go.RowKit Go.Deep

end Go.Proofs.YtonhpmaiagbheaaGreat

/- Bytes laid over each other: flat.Xor, missiveref1.Xor. -/
set_option linter.unusedSimpArgs false
set_option linter.unusedVariables false
namespace Go.Proofs.YtonhpmaiagbheaaGreat
open Go.RowKit Go.Deep

end Go.Proofs.YtonhpmaiagbheaaGreat

/- The program's HMAC: begun, NewKey, Key.Mac, Mac, Extract. -/
set_option linter.unusedSimpArgs false
set_option linter.unusedVariables false
namespace Go.Proofs.YtonhpmaiagbheaaGreat
open Go.RowKit Go.Deep

end Go.Proofs.YtonhpmaiagbheaaGreat

/- The program's HKDF: stretch, Expand, Derive. -/
set_option linter.unusedSimpArgs false
set_option linter.unusedVariables false
namespace Go.Proofs.YtonhpmaiagbheaaGreat
open Go.RowKit Go.Deep

end Go.Proofs.YtonhpmaiagbheaaGreat

/- The document's own sums. -/
set_option linter.unusedSimpArgs false
set_option linter.unusedVariables false
namespace Go.Proofs.YtonhpmaiagbheaaGreat
open Go.RowKit Go.Deep

end Go.Proofs.YtonhpmaiagbheaaGreat

/- The document's HMAC and HKDF. -/
set_option linter.unusedSimpArgs false
set_option linter.unusedVariables false
namespace Go.Proofs.YtonhpmaiagbheaaGreat
open Go.RowKit Go.Deep

set_option maxHeartbeats 800000 in
theorem refCat_any (v : Value) (L : List (List UInt8)) (w : World) (hv : Bss w v L) (hlen : L.flatten.length ≤ 2147483647) :
    Calls Tryz.prog 35 #[v] w fun e w' => ∃ v', e = .returned v' ∧ Owns w' w.heap.size v' L.flatten ∧ Below w.heap.size w w' := by
  have HV := Lib.hid hv
  obtain ⟨a, cap, rfl, h1, h2, h3, h4⟩ := hv
  clear h3 h4
  unfold maxLen at h2
  go_enter Tryz.func35, Tryz.ntmps35
  go_wp2
  generalize hn : L.flatten.length = n at *
  have HN := Lib.hid hn
  clear hn
  go_loopw [3, 4] (fun v i wr => ∃ j : Nat, j ≤ L.length ∧ i = .int .i64 j ∧ Owns wr w.heap.size v (catTo L j) ∧ Below w.heap.size w wr) (fun _ i _ => L.length - (intOf i).toNat)
  case atStart => exact ⟨0, Nat.zero_le _, rfl, Owns.nil _ _, Below.refl _ _⟩
  case round =>
    obtain ⟨j, hj, rfl, hown, hbel⟩ := hrel
    by_cases hlt : j < L.length
    · have hsum : (catTo L j).length + L[j].length ≤ n := by
        have := catTo_le L (j + 1)
        rw [catTo_succ L j hlt, List.length_append] at this
        have := HN.out
        omega
      obtain ⟨b, off, cap', he, _, _, hbl, hc⟩ := HV.out.open_cons (by omega)
      cases he
      obtain ⟨u, hcj, hu⟩ := hc j hlt
      clear hc
      have hcr : wr.cell? ⟨b, off + j, none⟩ = some u := (hbel.cell (by exact hbl)).trans hcj
      have hur : Bs wr u L[j] := hu.below hbel (Nat.le_refl _)
      have HU := Lib.hid hur
      obtain ⟨au, cu, rfl, _, _, _, _⟩ := hu
      clear hur
      go_wp2_with (refine wpList_app rfl _ _ rfl w.heap.size _ _ (catTo L j) L[j] hown HU.out rfl rfl (by omega) (by have := hbel.size; omega) ?_; intro v2 w2 hown2 hgrow2)
      have hown3 : Owns w2 w.heap.size v2 (catTo L (j + 1)) := by rw [catTo_succ L j hlt]; exact hown2
      have hbel3 : Below w.heap.size w w2 := hbel.grown hgrow2 hbel.size (Owns.block hown)
      clear hown2 hgrow2 hown hbel hcr HU hsum
      go_wp2
      go_roundw
      case rel => exact ⟨j + 1, by omega, by go_num, hown3, hbel3⟩
      case measure => simp [intOf]; omega
    · obtain rfl : j = L.length := by omega
      go_wp2
      go_ret
      exact ⟨_, rfl, by rw [← catTo_all L L.length (Nat.le_refl _)]; exact hown, hbel⟩

end Go.Proofs.YtonhpmaiagbheaaGreat

/- The document's signatures: Public, Sign. -/
namespace Go.Proofs.YtonhpmaiagbheaaGreat
open Go.RowKit Go.Deep
set_option linter.unusedSimpArgs false
set_option linter.unusedVariables false

theorem ownK {w : World} {base b K : Nat} (h : w.rowIs b 5 32 (kF K)) (hb : base ≤ b) : Owns w base (.slice (some ⟨b, 0, none⟩) 32 32) (litB K 32) :=
  Owns.of_row h hb (by unfold maxLen; omega) (litB_length _ _) fun i hi => by
    rw [litB_at]
    unfold kF byteN
    rw [UInt8.toNat_ofNat']
theorem clampK_any (v : Value) (l : List UInt8) (w : World) (hv : Bs w v l) :
    Calls Tryz.prog 33 #[v] w fun e w' => ∃ v', e = .returned v' ∧ Owns w' w.heap.size v' (litB (clampN l) 32) ∧ Below w.heap.size w w' :=
  (refClamp_any v l w hv).mono fun e w' ⟨h1, h2, h3⟩ => ⟨_, h1, ownK h2 (Nat.le_refl _), h3⟩
theorem refWideN_any (v : Value) (l : List UInt8) (w : World) (hv : Bs w v l) (N : Nat) (h : numL l 64 % ordL = N) : Calls Tryz.prog 32 #[v] w fun e w' => e = .returned (.agg (arrOf 32 (bF 32 N))) ∧ Below w.heap.size w w' := by
  rw [← h]
  exact refWide_any v l w hv
set_option maxHeartbeats 4000000 in
set_option maxRecDepth 10000 in
theorem edPublic_any (v0 : Value) (l0 : List UInt8) (w : World) (h0 : Bs w v0 l0) (hl : l0.length < 2 ^ 30) : Calls Tryz.prog 12 #[v0] w fun e w' => ∃ v, e = .returned v ∧ Owns w' w.heap.size v (edPub l0) ∧ Below w.heap.size w w' := by
  have f_s_0 := h0
  have HF_s_0 := Lib.hid h0
  clear h0
  obtain ⟨A, hA⟩ := nat_var (edA l0)
  have HNA : Hid (numL (litB (clampN ((k512.sum (l0)).take 32)) 32) 64 % ordL = A) := Lib.hid hA.symm
  have HTA : Hid (LtT (pmul dP bT A)) := Lib.hid (LtT.mul _ _)
  obtain ⟨pA, hpA⟩ : ∃ p, p = pmul dP bT A := ⟨_, rfl⟩
  rw [← hpA] at HTA
  have HT_pA : Hid (LtT pA) := HTA
  have HM := Lib.hid fun w => tMult_any bT A w LtT.base
  rw [← hpA] at HM
  have HE : Hid (litB (encA pA) 32 = edPub l0) := Lib.hid (by unfold edPub; rw [hpA, hA])
  have HLS := Lib.hid hl
  clear hA hpA HTA hl
  have Bw0 := Below.refl w.heap.size w
  have HGS : Hid (∀ wq : World, Below w.heap.size w wq → w.heap.size ≤ wq.heap.size) := Lib.hid fun wq h => h.size
  go_enter Tryz.func12, Tryz.ntmps12
  go_wp2_with (first
    | (have hgo := Bw0; clear hgo
       go_at_call 29
       refine (ref512_any _ (l0) _ f_s_0 (HLS.out)).mono ?_
       rintro e w2 ⟨v_s5, rfl, f_s5, kk⟩
       replace f_s_0 := zfb f_s_0 kk
       have Bw1 := zbt HGS Bw0 kk
       clear Bw0 kk))
  have Bw2 := Bw1.drew
  replace f_s_0 := Bs.drew f_s_0
  replace f_s5 := Bs.drew f_s5
  clear Bw1
  refine wp_region_lint (.rd 1 (.rd 2 (.wr 0 (.wr 3 (.wr 4 (.wr 5 (.wr 6 (.rd 7 .done)))))))) (by kernel_rfl) (by kernel_rfl) (by decide) (by kernel_rfl) (fun d _ _ _ _ h => by cases d <;> exact h) ?_
  refine lint_pure 7 (Op.move (Operand.tmp 3)) 22 (v_s5) rfl rfl rfl rfl rfl (fun w0 hb0 => by unfold mkOp; go_simp; all_goals (with_reducible rfl)) ?_
  simp only [Act.put, zA, zB, zC]
  obtain ⟨v_s8, f_s8, hr8⟩ := takeB f_s5 32 (by rw [sum512_length]; decide)
  refine lint_pure 8 (Op.slice 22 (Operand.tmp 7) none (some (Operand.const (Value.int IntKind.i64 32))) none) 22 v_s8 rfl rfl rfl rfl rfl (fun w0 hb0 => by exact hr8 _ _ _ _ w0 rfl rfl) ?_
  clear hr8
  simp only [Act.put, zA, zB, zC]
  refine stp_fn 6 30 #[] #[] _ (tBase_any _) rfl rfl rfl rfl Tryz.func30 (by kernel_rfl) (by kernel_rfl) (by go_simp) ?_
  rintro e w4 ⟨rfl, kk⟩
  refine ⟨_, rfl, kk, ?_⟩
  replace f_s_0 := zfb f_s_0 kk
  replace f_s5 := zfb f_s5 kk
  replace f_s8 := zfb f_s8 kk
  have Bw3 := zbt HGS Bw2 kk
  clear Bw2 kk
  simp only [Act.put, zA, zB, zC]
  refine stp_fn 9 33 #[Operand.tmp 8] #[22] _ (clampK_any _ ((k512.sum (l0)).take 32) _ f_s8) rfl rfl rfl rfl Tryz.func33 (by kernel_rfl) (by kernel_rfl) (by go_simp) ?_
  rintro e w5 ⟨v_s9, rfl, o_s9, kk⟩
  refine ⟨_, rfl, kk, ?_⟩
  replace f_s_0 := zfb f_s_0 kk
  replace f_s5 := zfb f_s5 kk
  replace f_s8 := zfb f_s8 kk
  have Bw4 := zbt HGS Bw3 kk
  clear Bw3 kk
  have f_s9 := o_s9.bs
  clear o_s9
  simp only [Act.put, zA, zB, zC]
  refine stp_fn 10 32 #[Operand.tmp 9] #[22] _ (refWideN_any _ (litB (clampN ((k512.sum (l0)).take 32)) 32) _ f_s9 A HNA.out) rfl rfl rfl rfl Tryz.func32 (by kernel_rfl) (by kernel_rfl) (by go_simp) ?_
  rintro e w6 ⟨rfl, kk⟩
  refine ⟨_, rfl, kk, ?_⟩
  replace f_s_0 := zfb f_s_0 kk
  replace f_s5 := zfb f_s5 kk
  replace f_s8 := zfb f_s8 kk
  replace f_s9 := zfb f_s9 kk
  have Bw5 := zbt HGS Bw4 kk
  clear Bw4 kk
  simp only [Act.put, zA, zB, zC]
  refine stp_fn 11 31 #[Operand.tmp 6, Operand.tmp 10] #[63, 67] _ (HM.out _) rfl rfl rfl rfl Tryz.func31 (by kernel_rfl) (by kernel_rfl) (by go_simp) ?_
  rintro e w7 ⟨rfl, kk⟩
  refine ⟨_, rfl, kk, ?_⟩
  replace f_s_0 := zfb f_s_0 kk
  replace f_s5 := zfb f_s5 kk
  replace f_s8 := zfb f_s8 kk
  replace f_s9 := zfb f_s9 kk
  have Bw6 := zbt HGS Bw5 kk
  clear Bw5 kk
  simp only [Act.put, zA, zB, zC]
  refine stp_fn 12 34 #[Operand.tmp 11] #[63] _ (tEncode_any pA _ HT_pA.out) rfl rfl rfl rfl Tryz.func34 (by kernel_rfl) (by kernel_rfl) (by go_simp) ?_
  rintro e w8 ⟨v_s12, rfl, o_s12, kk⟩
  refine ⟨_, rfl, kk, ?_⟩
  replace o_s12 := Owns.lower o_s12 (HGS.out _ Bw6)
  replace f_s_0 := zfb f_s_0 kk
  replace f_s5 := zfb f_s5 kk
  replace f_s8 := zfb f_s8 kk
  replace f_s9 := zfb f_s9 kk
  have Bw7 := zbt HGS Bw6 kk
  clear Bw6 kk
  have f_s12 := o_s12.bs
  simp only [Act.put, zA, zB, zC]
  refine lint_pure 2 (Op.assign (Operand.tmp 12)) 22 (v_s12) rfl rfl rfl rfl rfl (fun w0 hb0 => by unfold mkOp; go_simp; all_goals (with_reducible rfl)) ?_
  simp only [Act.put, zA, zB, zC]
  refine lint_end ?_
  go_wp2
  go_ret
  exact ⟨_, rfl, by rw [← HE.out]; exact o_s12, Bw7⟩
set_option maxHeartbeats 4000000 in
set_option maxRecDepth 10000 in
theorem edSign_any (v0 : Value) (l0 : List UInt8) (v1 : Value) (l1 : List UInt8) (w : World) (h0 : Bs w v0 l0) (h1 : Bs w v1 l1) (hl : l0.length < 2 ^ 30) (hl1 : l1.length < 2 ^ 29) : Calls Tryz.prog 13 #[v0, v1] w fun e w' => ∃ v, e = .returned v ∧ Owns w' w.heap.size v (edSig l0 l1) ∧ Below w.heap.size w w' := by
  have f_s_0 := h0
  have HF_s_0 := Lib.hid h0
  clear h0
  have f_s_1 := h1
  have HF_s_1 := Lib.hid h1
  clear h1
  obtain ⟨A, hA⟩ := nat_var (edA l0)
  obtain ⟨R, hR⟩ := nat_var (edR l0 l1)
  have HA : Hid (A < ordL) := Lib.hid (by rw [hA]; exact edA_lt _)
  have HR : Hid (R < ordL) := Lib.hid (by rw [hR]; exact edR_lt _ _)
  have HNA : Hid (numL (litB (clampN ((k512.sum (l0)).take 32)) 32) 64 % ordL = A) := Lib.hid hA.symm
  have HNR : Hid (numL (k512.sum ([(k512.sum (l0)).drop 32, l1].flatten)) 64 % ordL = R) := Lib.hid hR.symm
  have HTA : Hid (LtT (pmul dP bT A)) := Lib.hid (LtT.mul _ _)
  have HTR : Hid (LtT (pmul dP bT R)) := Lib.hid (LtT.mul _ _)
  obtain ⟨pA, hpA⟩ : ∃ p, p = pmul dP bT A := ⟨_, rfl⟩
  obtain ⟨pR, hpR⟩ : ∃ p, p = pmul dP bT R := ⟨_, rfl⟩
  rw [← hpA] at HTA
  rw [← hpR] at HTR
  have HT_pA : Hid (LtT pA) := HTA
  have HT_pR : Hid (LtT pR) := HTR
  have HMA := Lib.hid fun w => tMult_any bT A w LtT.base
  have HMR := Lib.hid fun w => tMult_any bT R w LtT.base
  rw [← hpA] at HMA
  rw [← hpR] at HMR
  have heA : litB (encA pA) 32 = edPub l0 := by unfold edPub; rw [hpA, hA]
  have heR : litB (encA pR) 32 = edRR l0 l1 := by unfold edRR; rw [hpR, hR]
  obtain ⟨K, hK⟩ := nat_var (edK (edRR l0 l1) (edPub l0) l1)
  have HK : Hid (K < ordL) := Lib.hid (by rw [hK]; exact edK_lt _ _ _)
  have HNK : Hid (numL (k512.sum ([litB (encA pR) 32, litB (encA pA) 32, l1].flatten)) 64 % ordL = K) := Lib.hid (by rw [heR, heA]; exact hK.symm)
  have HE : Hid ([litB (encA pR) 32, litB ((R + (K * A % ordL)) % ordL) 32].flatten = edSig l0 l1) := Lib.hid (by unfold edSig edS; rw [heR, hA, hR, hK])
  have HLS := Lib.hid hl
  have HLT := Lib.hid hl1
  clear hA hR hpA hpR HTA HTR heA heR hK hl hl1
  have Bw0 := Below.refl w.heap.size w
  have HGS : Hid (∀ wq : World, Below w.heap.size w wq → w.heap.size ≤ wq.heap.size) := Lib.hid fun wq h => h.size
  go_enter Tryz.func13, Tryz.ntmps13
  go_wp2_with (first
    | (have hgo := Bw0; clear hgo
       go_at_call 29
       refine (ref512_any _ (l0) _ f_s_0 (HLS.out)).mono ?_
       rintro e w2 ⟨v_s12, rfl, f_s12, kk⟩
       replace f_s_0 := zfb f_s_0 kk
       replace f_s_1 := zfb f_s_1 kk
       have Bw1 := zbt HGS Bw0 kk
       clear Bw0 kk)
    | (have hgo := Bw1; clear hgo
       obtain ⟨v_s14, f_s14, hr14⟩ := takeB f_s12 32 (by rw [sum512_length]; decide)
       refine wpList_value rfl _ (by rw [exec_mkOp]; exact hr14 _ _ _ _ _ rfl rfl) ?_
       clear hr14
       have Bw2 := Bw1
       clear Bw1)
    | (have hgo := Bw2; clear hgo
       go_at_call 33
       refine (clampK_any _ ((k512.sum (l0)).take 32) _ f_s14).mono ?_
       rintro e w6 ⟨v_s15, rfl, o_s15, kk⟩
       replace f_s_0 := zfb f_s_0 kk
       replace f_s_1 := zfb f_s_1 kk
       replace f_s12 := zfb f_s12 kk
       replace f_s14 := zfb f_s14 kk
       have Bw3 := zbt HGS Bw2 kk
       clear Bw2 kk
       have f_s15 := o_s15.bs
       clear o_s15)
    | (have hgo := Bw3; clear hgo
       go_at_call 32
       refine (refWideN_any _ (litB (clampN ((k512.sum (l0)).take 32)) 32) _ f_s15 A HNA.out).mono ?_
       rintro e w7 ⟨rfl, kk⟩
       replace f_s_0 := zfb f_s_0 kk
       replace f_s_1 := zfb f_s_1 kk
       replace f_s12 := zfb f_s12 kk
       replace f_s14 := zfb f_s14 kk
       replace f_s15 := zfb f_s15 kk
       have Bw4 := zbt HGS Bw3 kk
       clear Bw3 kk)
    | (have hgo := Bw4; clear hgo
       refine wpList_alloc_row rfl 67 rfl 32 (fun _ => .int .u8 0) zeroSc ?_
       intro b_t6 w8 lk r_t6 kk
       have l_t6 := zrl HGS Bw4 lk
       have a_s_0_t6 := Bs.away f_s_0 lk
       have a_s_1_t6 := Bs.away f_s_1 lk
       have a_s12_t6 := Bs.away f_s12 lk
       have a_s14_t6 := Bs.away f_s14 lk
       have a_s15_t6 := Bs.away f_s15 lk
       replace f_s_0 := zfb f_s_0 kk
       replace f_s_1 := zfb f_s_1 kk
       replace f_s12 := zfb f_s12 kk
       replace f_s14 := zfb f_s14 kk
       replace f_s15 := zfb f_s15 kk
       have Bw5 := zbt HGS Bw4 kk
       clear Bw4 kk lk)
    | (have hgo := Bw5; clear hgo
       refine wpList_store_as rfl 67 (.tmp 6) (.tmp 16) rfl 32 (bF 32 A) arrSc r_t6 rfl rfl (by omega) (fun _ _ => rfl) (fun i hi => putN_whole hi) ?_
       intro w9 q gk
       replace r_t6 := q
       have Bw6 := zbg HGS Bw5 gk l_t6
       replace f_s_0 := gb_bs f_s_0 gk a_s_0_t6
       replace f_s_1 := gb_bs f_s_1 gk a_s_1_t6
       replace f_s12 := gb_bs f_s12 gk a_s12_t6
       replace f_s14 := gb_bs f_s14 gk a_s14_t6
       replace f_s15 := gb_bs f_s15 gk a_s15_t6
       clear Bw5 gk q))
  have Bw7 := Bw6.drew
  replace r_t6 := World.rowIs.drew r_t6
  replace f_s_0 := Bs.drew f_s_0
  replace f_s_1 := Bs.drew f_s_1
  replace f_s12 := Bs.drew f_s12
  replace f_s14 := Bs.drew f_s14
  replace f_s15 := Bs.drew f_s15
  clear Bw6
  refine wp_region_lint (.rd 1 (.wr 0 (.wr 2 (.wr 3 (.rd 4 .done))))) (by kernel_rfl) (by kernel_rfl) (by decide) (by kernel_rfl) (fun d _ _ _ _ h => by cases d <;> exact h) ?_
  refine lint_pure 18 (Op.load 67 (Operand.tmp 6)) 67 (.agg (arrOf 32 (bF 32 A))) rfl rfl rfl rfl rfl (fun w0 hb0 => by exact exec_load_as _ _ _ _ (bF 32 A) rfl arrSc (World.rowIs.of_block r_t6 (hb0.block _ (World.rowIs.lt r_t6))) (by omega) (fun i hi => by rw [Nat.zero_add])) ?_
  simp only [Act.put, zA, zB, zC]
  refine stp_fn 17 30 #[] #[] _ (tBase_any _) rfl rfl rfl rfl Tryz.func30 (by kernel_rfl) (by kernel_rfl) (by go_simp) ?_
  rintro e w10 ⟨rfl, kk⟩
  refine ⟨_, rfl, kk, ?_⟩
  replace r_t6 := zrb r_t6 kk
  replace f_s_0 := zfb f_s_0 kk
  replace f_s_1 := zfb f_s_1 kk
  replace f_s12 := zfb f_s12 kk
  replace f_s14 := zfb f_s14 kk
  replace f_s15 := zfb f_s15 kk
  have Bw8 := zbt HGS Bw7 kk
  clear Bw7 kk
  simp only [Act.put, zA, zB, zC]
  refine stp_fn 19 31 #[Operand.tmp 17, Operand.tmp 18] #[63, 67] _ (HMA.out _) rfl rfl rfl rfl Tryz.func31 (by kernel_rfl) (by kernel_rfl) (by go_simp) ?_
  rintro e w11 ⟨rfl, kk⟩
  refine ⟨_, rfl, kk, ?_⟩
  replace r_t6 := zrb r_t6 kk
  replace f_s_0 := zfb f_s_0 kk
  replace f_s_1 := zfb f_s_1 kk
  replace f_s12 := zfb f_s12 kk
  replace f_s14 := zfb f_s14 kk
  replace f_s15 := zfb f_s15 kk
  have Bw9 := zbt HGS Bw8 kk
  clear Bw8 kk
  simp only [Act.put, zA, zB, zC]
  refine stp_fn 20 34 #[Operand.tmp 19] #[63] _ (tEncode_any pA _ HT_pA.out) rfl rfl rfl rfl Tryz.func34 (by kernel_rfl) (by kernel_rfl) (by go_simp) ?_
  rintro e w12 ⟨v_s20, rfl, o_s20, kk⟩
  refine ⟨_, rfl, kk, ?_⟩
  replace r_t6 := zrb r_t6 kk
  replace f_s_0 := zfb f_s_0 kk
  replace f_s_1 := zfb f_s_1 kk
  replace f_s12 := zfb f_s12 kk
  replace f_s14 := zfb f_s14 kk
  replace f_s15 := zfb f_s15 kk
  have Bw10 := zbt HGS Bw9 kk
  clear Bw9 kk
  have f_s20 := o_s20.bs
  clear o_s20
  simp only [Act.put, zA, zB, zC]
  refine lint_pure 7 (Op.assign (Operand.tmp 20)) 22 (v_s20) rfl rfl rfl rfl rfl (fun w0 hb0 => by unfold mkOp; go_simp; all_goals (with_reducible rfl)) ?_
  simp only [Act.put, zA, zB, zC]
  refine lint_end ?_
  go_wp2_with (first
    | (have hgo := Bw10; clear hgo
       obtain ⟨v_s22, f_s22, hr22⟩ := dropB f_s12 32 (by rw [sum512_length]; decide)
       refine wpList_value rfl _ (by rw [exec_mkOp]; exact hr22 _ _ _ _ _ rfl rfl) ?_
       clear hr22
       have Bw11 := Bw10
       clear Bw10)
    | (have hgo := Bw11; clear hgo
       refine wpList_rows2 rfl (.tmp 22) (.tmp 23) rfl f_s22 f_s_1 rfl rfl ?_
       intro v_r24 w16 F_r24 kk
       replace r_t6 := zrb r_t6 kk
       replace f_s_0 := zfb f_s_0 kk
       replace f_s_1 := zfb f_s_1 kk
       replace f_s12 := zfb f_s12 kk
       replace f_s14 := zfb f_s14 kk
       replace f_s15 := zfb f_s15 kk
       replace f_s20 := zfb f_s20 kk
       replace f_s22 := zfb f_s22 kk
       have Bw12 := zbt HGS Bw11 kk
       clear Bw11 kk)
    | (have hgo := Bw12; clear hgo
       go_at_call 35
       refine (refCat_any _ [(k512.sum (l0)).drop 32, l1] _ F_r24 (by have := HLT.out; simp [sum512_length]; omega)).mono ?_
       rintro e w17 ⟨v_s25, rfl, o_s25, kk⟩
       replace r_t6 := zrb r_t6 kk
       replace f_s_0 := zfb f_s_0 kk
       replace f_s_1 := zfb f_s_1 kk
       replace f_s12 := zfb f_s12 kk
       replace f_s14 := zfb f_s14 kk
       replace f_s15 := zfb f_s15 kk
       replace f_s20 := zfb f_s20 kk
       replace f_s22 := zfb f_s22 kk
       have Bw13 := zbt HGS Bw12 kk
       clear Bw12 kk
       have f_s25 := o_s25.bs
       clear o_s25)
    | (have hgo := Bw13; clear hgo
       go_at_call 29
       refine (ref512_any _ ([(k512.sum (l0)).drop 32, l1].flatten) _ f_s25 (by have := HLT.out; simp [sum512_length]; omega)).mono ?_
       rintro e w18 ⟨v_s26, rfl, f_s26, kk⟩
       replace r_t6 := zrb r_t6 kk
       replace f_s_0 := zfb f_s_0 kk
       replace f_s_1 := zfb f_s_1 kk
       replace f_s12 := zfb f_s12 kk
       replace f_s14 := zfb f_s14 kk
       replace f_s15 := zfb f_s15 kk
       replace f_s20 := zfb f_s20 kk
       replace f_s22 := zfb f_s22 kk
       replace f_s25 := zfb f_s25 kk
       have Bw14 := zbt HGS Bw13 kk
       clear Bw13 kk)
    | (have hgo := Bw14; clear hgo
       go_at_call 32
       refine (refWideN_any _ (k512.sum ([(k512.sum (l0)).drop 32, l1].flatten)) _ f_s26 R HNR.out).mono ?_
       rintro e w19 ⟨rfl, kk⟩
       replace r_t6 := zrb r_t6 kk
       replace f_s_0 := zfb f_s_0 kk
       replace f_s_1 := zfb f_s_1 kk
       replace f_s12 := zfb f_s12 kk
       replace f_s14 := zfb f_s14 kk
       replace f_s15 := zfb f_s15 kk
       replace f_s20 := zfb f_s20 kk
       replace f_s22 := zfb f_s22 kk
       replace f_s25 := zfb f_s25 kk
       replace f_s26 := zfb f_s26 kk
       have Bw15 := zbt HGS Bw14 kk
       clear Bw14 kk)
    | (have hgo := Bw15; clear hgo
       refine wpList_alloc_row rfl 67 rfl 32 (fun _ => .int .u8 0) zeroSc ?_
       intro b_t8 w20 lk r_t8 kk
       have n_t6_t8 := zrn r_t6 lk
       have l_t8 := zrl HGS Bw15 lk
       have a_s_0_t8 := Bs.away f_s_0 lk
       have a_s_1_t8 := Bs.away f_s_1 lk
       have a_s12_t8 := Bs.away f_s12 lk
       have a_s14_t8 := Bs.away f_s14 lk
       have a_s15_t8 := Bs.away f_s15 lk
       have a_s20_t8 := Bs.away f_s20 lk
       have a_s22_t8 := Bs.away f_s22 lk
       have a_s25_t8 := Bs.away f_s25 lk
       have a_s26_t8 := Bs.away f_s26 lk
       replace r_t6 := zrb r_t6 kk
       replace f_s_0 := zfb f_s_0 kk
       replace f_s_1 := zfb f_s_1 kk
       replace f_s12 := zfb f_s12 kk
       replace f_s14 := zfb f_s14 kk
       replace f_s15 := zfb f_s15 kk
       replace f_s20 := zfb f_s20 kk
       replace f_s22 := zfb f_s22 kk
       replace f_s25 := zfb f_s25 kk
       replace f_s26 := zfb f_s26 kk
       have Bw16 := zbt HGS Bw15 kk
       clear Bw15 kk lk)
    | (have hgo := Bw16; clear hgo
       refine wpList_store_as rfl 67 (.tmp 8) (.tmp 27) rfl 32 (bF 32 R) arrSc r_t8 rfl rfl (by omega) (fun _ _ => rfl) (fun i hi => putN_whole hi) ?_
       intro w21 q gk
       replace r_t6 := gb_rowIs r_t6 gk n_t6_t8
       replace r_t8 := q
       have Bw17 := zbg HGS Bw16 gk l_t8
       replace f_s_0 := gb_bs f_s_0 gk a_s_0_t8
       replace f_s_1 := gb_bs f_s_1 gk a_s_1_t8
       replace f_s12 := gb_bs f_s12 gk a_s12_t8
       replace f_s14 := gb_bs f_s14 gk a_s14_t8
       replace f_s15 := gb_bs f_s15 gk a_s15_t8
       replace f_s20 := gb_bs f_s20 gk a_s20_t8
       replace f_s22 := gb_bs f_s22 gk a_s22_t8
       replace f_s25 := gb_bs f_s25 gk a_s25_t8
       replace f_s26 := gb_bs f_s26 gk a_s26_t8
       clear Bw16 gk q))
  have Bw18 := Bw17.drew
  replace r_t6 := World.rowIs.drew r_t6
  replace r_t8 := World.rowIs.drew r_t8
  replace f_s_0 := Bs.drew f_s_0
  replace f_s_1 := Bs.drew f_s_1
  replace f_s12 := Bs.drew f_s12
  replace f_s14 := Bs.drew f_s14
  replace f_s15 := Bs.drew f_s15
  replace f_s20 := Bs.drew f_s20
  replace f_s22 := Bs.drew f_s22
  replace f_s25 := Bs.drew f_s25
  replace f_s26 := Bs.drew f_s26
  clear Bw17
  refine wp_region_lint (.rd 1 (.wr 0 (.wr 2 (.wr 3 (.rd 4 .done))))) (by kernel_rfl) (by kernel_rfl) (by decide) (by kernel_rfl) (fun d _ _ _ _ h => by cases d <;> exact h) ?_
  refine lint_pure 29 (Op.load 67 (Operand.tmp 8)) 67 (.agg (arrOf 32 (bF 32 R))) rfl rfl rfl rfl rfl (fun w0 hb0 => by exact exec_load_as _ _ _ _ (bF 32 R) rfl arrSc (World.rowIs.of_block r_t8 (hb0.block _ (World.rowIs.lt r_t8))) (by omega) (fun i hi => by rw [Nat.zero_add])) ?_
  simp only [Act.put, zA, zB, zC]
  refine stp_fn 28 30 #[] #[] _ (tBase_any _) rfl rfl rfl rfl Tryz.func30 (by kernel_rfl) (by kernel_rfl) (by go_simp) ?_
  rintro e w22 ⟨rfl, kk⟩
  refine ⟨_, rfl, kk, ?_⟩
  replace r_t6 := zrb r_t6 kk
  replace r_t8 := zrb r_t8 kk
  replace f_s_0 := zfb f_s_0 kk
  replace f_s_1 := zfb f_s_1 kk
  replace f_s12 := zfb f_s12 kk
  replace f_s14 := zfb f_s14 kk
  replace f_s15 := zfb f_s15 kk
  replace f_s20 := zfb f_s20 kk
  replace f_s22 := zfb f_s22 kk
  replace f_s25 := zfb f_s25 kk
  replace f_s26 := zfb f_s26 kk
  have Bw19 := zbt HGS Bw18 kk
  clear Bw18 kk
  simp only [Act.put, zA, zB, zC]
  refine stp_fn 30 31 #[Operand.tmp 28, Operand.tmp 29] #[63, 67] _ (HMR.out _) rfl rfl rfl rfl Tryz.func31 (by kernel_rfl) (by kernel_rfl) (by go_simp) ?_
  rintro e w23 ⟨rfl, kk⟩
  refine ⟨_, rfl, kk, ?_⟩
  replace r_t6 := zrb r_t6 kk
  replace r_t8 := zrb r_t8 kk
  replace f_s_0 := zfb f_s_0 kk
  replace f_s_1 := zfb f_s_1 kk
  replace f_s12 := zfb f_s12 kk
  replace f_s14 := zfb f_s14 kk
  replace f_s15 := zfb f_s15 kk
  replace f_s20 := zfb f_s20 kk
  replace f_s22 := zfb f_s22 kk
  replace f_s25 := zfb f_s25 kk
  replace f_s26 := zfb f_s26 kk
  have Bw20 := zbt HGS Bw19 kk
  clear Bw19 kk
  simp only [Act.put, zA, zB, zC]
  refine stp_fn 31 34 #[Operand.tmp 30] #[63] _ (tEncode_any pR _ HT_pR.out) rfl rfl rfl rfl Tryz.func34 (by kernel_rfl) (by kernel_rfl) (by go_simp) ?_
  rintro e w24 ⟨v_s31, rfl, o_s31, kk⟩
  refine ⟨_, rfl, kk, ?_⟩
  replace r_t6 := zrb r_t6 kk
  replace r_t8 := zrb r_t8 kk
  replace f_s_0 := zfb f_s_0 kk
  replace f_s_1 := zfb f_s_1 kk
  replace f_s12 := zfb f_s12 kk
  replace f_s14 := zfb f_s14 kk
  replace f_s15 := zfb f_s15 kk
  replace f_s20 := zfb f_s20 kk
  replace f_s22 := zfb f_s22 kk
  replace f_s25 := zfb f_s25 kk
  replace f_s26 := zfb f_s26 kk
  have Bw21 := zbt HGS Bw20 kk
  clear Bw20 kk
  have f_s31 := o_s31.bs
  clear o_s31
  simp only [Act.put, zA, zB, zC]
  refine lint_pure 9 (Op.assign (Operand.tmp 31)) 22 (v_s31) rfl rfl rfl rfl rfl (fun w0 hb0 => by unfold mkOp; go_simp; all_goals (with_reducible rfl)) ?_
  simp only [Act.put, zA, zB, zC]
  refine lint_end ?_
  go_wp2_with (first
    | (have hgo := Bw21; clear hgo
       refine wpList_rows3 rfl (.tmp 32) (.tmp 33) (.tmp 34) rfl f_s31 f_s20 f_s_1 rfl rfl rfl ?_
       intro v_r35 w28 F_r35 kk
       replace r_t6 := zrb r_t6 kk
       replace r_t8 := zrb r_t8 kk
       replace f_s_0 := zfb f_s_0 kk
       replace f_s_1 := zfb f_s_1 kk
       replace f_s12 := zfb f_s12 kk
       replace f_s14 := zfb f_s14 kk
       replace f_s15 := zfb f_s15 kk
       replace f_s20 := zfb f_s20 kk
       replace f_s22 := zfb f_s22 kk
       replace f_s25 := zfb f_s25 kk
       replace f_s26 := zfb f_s26 kk
       replace f_s31 := zfb f_s31 kk
       have Bw22 := zbt HGS Bw21 kk
       clear Bw21 kk)
    | (have hgo := Bw22; clear hgo
       go_at_call 35
       refine (refCat_any _ [litB (encA pR) 32, litB (encA pA) 32, l1] _ F_r35 (by have := HLT.out; simp [litB_length]; omega)).mono ?_
       rintro e w29 ⟨v_s36, rfl, o_s36, kk⟩
       replace r_t6 := zrb r_t6 kk
       replace r_t8 := zrb r_t8 kk
       replace f_s_0 := zfb f_s_0 kk
       replace f_s_1 := zfb f_s_1 kk
       replace f_s12 := zfb f_s12 kk
       replace f_s14 := zfb f_s14 kk
       replace f_s15 := zfb f_s15 kk
       replace f_s20 := zfb f_s20 kk
       replace f_s22 := zfb f_s22 kk
       replace f_s25 := zfb f_s25 kk
       replace f_s26 := zfb f_s26 kk
       replace f_s31 := zfb f_s31 kk
       have Bw23 := zbt HGS Bw22 kk
       clear Bw22 kk
       have f_s36 := o_s36.bs
       clear o_s36)
    | (have hgo := Bw23; clear hgo
       go_at_call 29
       refine (ref512_any _ ([litB (encA pR) 32, litB (encA pA) 32, l1].flatten) _ f_s36 (by have := HLT.out; simp [litB_length]; omega)).mono ?_
       rintro e w30 ⟨v_s37, rfl, f_s37, kk⟩
       replace r_t6 := zrb r_t6 kk
       replace r_t8 := zrb r_t8 kk
       replace f_s_0 := zfb f_s_0 kk
       replace f_s_1 := zfb f_s_1 kk
       replace f_s12 := zfb f_s12 kk
       replace f_s14 := zfb f_s14 kk
       replace f_s15 := zfb f_s15 kk
       replace f_s20 := zfb f_s20 kk
       replace f_s22 := zfb f_s22 kk
       replace f_s25 := zfb f_s25 kk
       replace f_s26 := zfb f_s26 kk
       replace f_s31 := zfb f_s31 kk
       replace f_s36 := zfb f_s36 kk
       have Bw24 := zbt HGS Bw23 kk
       clear Bw23 kk)
    | (have hgo := Bw24; clear hgo
       go_at_call 32
       refine (refWideN_any _ (k512.sum ([litB (encA pR) 32, litB (encA pA) 32, l1].flatten)) _ f_s37 K HNK.out).mono ?_
       rintro e w31 ⟨rfl, kk⟩
       replace r_t6 := zrb r_t6 kk
       replace r_t8 := zrb r_t8 kk
       replace f_s_0 := zfb f_s_0 kk
       replace f_s_1 := zfb f_s_1 kk
       replace f_s12 := zfb f_s12 kk
       replace f_s14 := zfb f_s14 kk
       replace f_s15 := zfb f_s15 kk
       replace f_s20 := zfb f_s20 kk
       replace f_s22 := zfb f_s22 kk
       replace f_s25 := zfb f_s25 kk
       replace f_s26 := zfb f_s26 kk
       replace f_s31 := zfb f_s31 kk
       replace f_s36 := zfb f_s36 kk
       replace f_s37 := zfb f_s37 kk
       have Bw25 := zbt HGS Bw24 kk
       clear Bw24 kk)
    | (have hgo := Bw25; clear hgo
       refine wpList_alloc_row rfl 67 rfl 32 (fun _ => .int .u8 0) zeroSc ?_
       intro b_t10 w32 lk r_t10 kk
       have n_t6_t10 := zrn r_t6 lk
       have n_t8_t10 := zrn r_t8 lk
       have l_t10 := zrl HGS Bw25 lk
       have a_s_0_t10 := Bs.away f_s_0 lk
       have a_s_1_t10 := Bs.away f_s_1 lk
       have a_s12_t10 := Bs.away f_s12 lk
       have a_s14_t10 := Bs.away f_s14 lk
       have a_s15_t10 := Bs.away f_s15 lk
       have a_s20_t10 := Bs.away f_s20 lk
       have a_s22_t10 := Bs.away f_s22 lk
       have a_s25_t10 := Bs.away f_s25 lk
       have a_s26_t10 := Bs.away f_s26 lk
       have a_s31_t10 := Bs.away f_s31 lk
       have a_s36_t10 := Bs.away f_s36 lk
       have a_s37_t10 := Bs.away f_s37 lk
       replace r_t6 := zrb r_t6 kk
       replace r_t8 := zrb r_t8 kk
       replace f_s_0 := zfb f_s_0 kk
       replace f_s_1 := zfb f_s_1 kk
       replace f_s12 := zfb f_s12 kk
       replace f_s14 := zfb f_s14 kk
       replace f_s15 := zfb f_s15 kk
       replace f_s20 := zfb f_s20 kk
       replace f_s22 := zfb f_s22 kk
       replace f_s25 := zfb f_s25 kk
       replace f_s26 := zfb f_s26 kk
       replace f_s31 := zfb f_s31 kk
       replace f_s36 := zfb f_s36 kk
       replace f_s37 := zfb f_s37 kk
       have Bw26 := zbt HGS Bw25 kk
       clear Bw25 kk lk)
    | (have hgo := Bw26; clear hgo
       refine wpList_store_as rfl 67 (.tmp 10) (.tmp 38) rfl 32 (bF 32 K) arrSc r_t10 rfl rfl (by omega) (fun _ _ => rfl) (fun i hi => putN_whole hi) ?_
       intro w33 q gk
       replace r_t6 := gb_rowIs r_t6 gk n_t6_t10
       replace r_t8 := gb_rowIs r_t8 gk n_t8_t10
       replace r_t10 := q
       have Bw27 := zbg HGS Bw26 gk l_t10
       replace f_s_0 := gb_bs f_s_0 gk a_s_0_t10
       replace f_s_1 := gb_bs f_s_1 gk a_s_1_t10
       replace f_s12 := gb_bs f_s12 gk a_s12_t10
       replace f_s14 := gb_bs f_s14 gk a_s14_t10
       replace f_s15 := gb_bs f_s15 gk a_s15_t10
       replace f_s20 := gb_bs f_s20 gk a_s20_t10
       replace f_s22 := gb_bs f_s22 gk a_s22_t10
       replace f_s25 := gb_bs f_s25 gk a_s25_t10
       replace f_s26 := gb_bs f_s26 gk a_s26_t10
       replace f_s31 := gb_bs f_s31 gk a_s31_t10
       replace f_s36 := gb_bs f_s36 gk a_s36_t10
       replace f_s37 := gb_bs f_s37 gk a_s37_t10
       clear Bw26 gk q))
  have Bw28 := Bw27.drew
  replace r_t6 := World.rowIs.drew r_t6
  replace r_t8 := World.rowIs.drew r_t8
  replace r_t10 := World.rowIs.drew r_t10
  replace f_s_0 := Bs.drew f_s_0
  replace f_s_1 := Bs.drew f_s_1
  replace f_s12 := Bs.drew f_s12
  replace f_s14 := Bs.drew f_s14
  replace f_s15 := Bs.drew f_s15
  replace f_s20 := Bs.drew f_s20
  replace f_s22 := Bs.drew f_s22
  replace f_s25 := Bs.drew f_s25
  replace f_s26 := Bs.drew f_s26
  replace f_s31 := Bs.drew f_s31
  replace f_s36 := Bs.drew f_s36
  replace f_s37 := Bs.drew f_s37
  clear Bw27
  refine wp_region_lint (.rd 0 (.rd 1 (.rd 2 (.rd 3 (.wr 4 (.wr 5 (.wr 6 (.wr 7 (.wr 8 (.rd 9 .done)))))))))) (by kernel_rfl) (by kernel_rfl) (by decide) (by kernel_rfl) (fun d _ _ _ _ h => by cases d <;> exact h) ?_
  refine lint_pure 39 (Op.move (Operand.tmp 9)) 22 (v_s31) rfl rfl rfl rfl rfl (fun w0 hb0 => by unfold mkOp; go_simp; all_goals (with_reducible rfl)) ?_
  simp only [Act.put, zA, zB, zC]
  refine lint_pure 40 (Op.load 67 (Operand.tmp 8)) 67 (.agg (arrOf 32 (bF 32 R))) rfl rfl rfl rfl rfl (fun w0 hb0 => by exact exec_load_as _ _ _ _ (bF 32 R) rfl arrSc (World.rowIs.of_block r_t8 (hb0.block _ (World.rowIs.lt r_t8))) (by omega) (fun i hi => by rw [Nat.zero_add])) ?_
  simp only [Act.put, zA, zB, zC]
  refine lint_pure 41 (Op.load 67 (Operand.tmp 10)) 67 (.agg (arrOf 32 (bF 32 K))) rfl rfl rfl rfl rfl (fun w0 hb0 => by exact exec_load_as _ _ _ _ (bF 32 K) rfl arrSc (World.rowIs.of_block r_t10 (hb0.block _ (World.rowIs.lt r_t10))) (by omega) (fun i hi => by rw [Nat.zero_add])) ?_
  simp only [Act.put, zA, zB, zC]
  refine lint_pure 42 (Op.load 67 (Operand.tmp 6)) 67 (.agg (arrOf 32 (bF 32 A))) rfl rfl rfl rfl rfl (fun w0 hb0 => by exact exec_load_as _ _ _ _ (bF 32 A) rfl arrSc (World.rowIs.of_block r_t6 (hb0.block _ (World.rowIs.lt r_t6))) (by omega) (fun i hi => by rw [Nat.zero_add])) ?_
  simp only [Act.put, zA, zB, zC]
  refine stp_fn 43 37 #[Operand.tmp 41, Operand.tmp 42] #[67, 67] _ (refScMul_any K A _ HK.out HA.out) rfl rfl rfl rfl Tryz.func37 (by kernel_rfl) (by kernel_rfl) (by go_simp) ?_
  rintro e w34 ⟨rfl, kk⟩
  refine ⟨_, rfl, kk, ?_⟩
  replace r_t6 := zrb r_t6 kk
  replace r_t8 := zrb r_t8 kk
  replace r_t10 := zrb r_t10 kk
  replace f_s_0 := zfb f_s_0 kk
  replace f_s_1 := zfb f_s_1 kk
  replace f_s12 := zfb f_s12 kk
  replace f_s14 := zfb f_s14 kk
  replace f_s15 := zfb f_s15 kk
  replace f_s20 := zfb f_s20 kk
  replace f_s22 := zfb f_s22 kk
  replace f_s25 := zfb f_s25 kk
  replace f_s26 := zfb f_s26 kk
  replace f_s31 := zfb f_s31 kk
  replace f_s36 := zfb f_s36 kk
  replace f_s37 := zfb f_s37 kk
  have Bw29 := zbt HGS Bw28 kk
  clear Bw28 kk
  simp only [Act.put, zA, zB, zC]
  refine stp_fn 44 36 #[Operand.tmp 40, Operand.tmp 43] #[67, 67] _ (refScAdd_any R (K * A % ordL) _ HR.out (Nat.mod_lt _ ordL_pos)) rfl rfl rfl rfl Tryz.func36 (by kernel_rfl) (by kernel_rfl) (by go_simp) ?_
  rintro e w35 ⟨rfl, kk⟩
  refine ⟨_, rfl, kk, ?_⟩
  replace r_t6 := zrb r_t6 kk
  replace r_t8 := zrb r_t8 kk
  replace r_t10 := zrb r_t10 kk
  replace f_s_0 := zfb f_s_0 kk
  replace f_s_1 := zfb f_s_1 kk
  replace f_s12 := zfb f_s12 kk
  replace f_s14 := zfb f_s14 kk
  replace f_s15 := zfb f_s15 kk
  replace f_s20 := zfb f_s20 kk
  replace f_s22 := zfb f_s22 kk
  replace f_s25 := zfb f_s25 kk
  replace f_s26 := zfb f_s26 kk
  replace f_s31 := zfb f_s31 kk
  replace f_s36 := zfb f_s36 kk
  replace f_s37 := zfb f_s37 kk
  have Bw30 := zbt HGS Bw29 kk
  clear Bw29 kk
  simp only [Act.put, zA, zB, zC]
  refine stp_fn 45 38 #[Operand.tmp 44] #[67] _ (refScBytes_any ((R + (K * A % ordL)) % ordL) _) rfl rfl rfl rfl Tryz.func38 (by kernel_rfl) (by kernel_rfl) (by go_simp) ?_
  rintro e w36 ⟨v_s45, rfl, o_s45, kk⟩
  refine ⟨_, rfl, kk, ?_⟩
  replace r_t6 := zrb r_t6 kk
  replace r_t8 := zrb r_t8 kk
  replace r_t10 := zrb r_t10 kk
  replace f_s_0 := zfb f_s_0 kk
  replace f_s_1 := zfb f_s_1 kk
  replace f_s12 := zfb f_s12 kk
  replace f_s14 := zfb f_s14 kk
  replace f_s15 := zfb f_s15 kk
  replace f_s20 := zfb f_s20 kk
  replace f_s22 := zfb f_s22 kk
  replace f_s25 := zfb f_s25 kk
  replace f_s26 := zfb f_s26 kk
  replace f_s31 := zfb f_s31 kk
  replace f_s36 := zfb f_s36 kk
  replace f_s37 := zfb f_s37 kk
  have Bw31 := zbt HGS Bw30 kk
  clear Bw30 kk
  have f_s45 := o_s45.bs
  clear o_s45
  simp only [Act.put, zA, zB, zC]
  refine stp_rows2 46 (.tmp 39) (.tmp 45) 23 rfl rfl rfl rfl rfl f_s31 f_s45 rfl rfl ?_
  intro w37 v_r46 F_r46 kk
  replace r_t6 := zrb r_t6 kk
  replace r_t8 := zrb r_t8 kk
  replace r_t10 := zrb r_t10 kk
  replace f_s_0 := zfb f_s_0 kk
  replace f_s_1 := zfb f_s_1 kk
  replace f_s12 := zfb f_s12 kk
  replace f_s14 := zfb f_s14 kk
  replace f_s15 := zfb f_s15 kk
  replace f_s20 := zfb f_s20 kk
  replace f_s22 := zfb f_s22 kk
  replace f_s25 := zfb f_s25 kk
  replace f_s26 := zfb f_s26 kk
  replace f_s31 := zfb f_s31 kk
  replace f_s36 := zfb f_s36 kk
  replace f_s37 := zfb f_s37 kk
  replace f_s45 := zfb f_s45 kk
  have Bw32 := zbt HGS Bw31 kk
  clear Bw31 kk
  simp only [Act.put, zA, zB, zC]
  refine stp_fn 47 35 #[Operand.tmp 46] #[23] _ (refCat_any _ [litB (encA pR) 32, litB ((R + (K * A % ordL)) % ordL) 32] _ F_r46 (by simp [litB_length])) rfl rfl rfl rfl Tryz.func35 (by kernel_rfl) (by kernel_rfl) (by go_simp) ?_
  rintro e w38 ⟨v_s47, rfl, o_s47, kk⟩
  refine ⟨_, rfl, kk, ?_⟩
  replace o_s47 := Owns.lower o_s47 (HGS.out _ Bw32)
  replace r_t6 := zrb r_t6 kk
  replace r_t8 := zrb r_t8 kk
  replace r_t10 := zrb r_t10 kk
  replace f_s_0 := zfb f_s_0 kk
  replace f_s_1 := zfb f_s_1 kk
  replace f_s12 := zfb f_s12 kk
  replace f_s14 := zfb f_s14 kk
  replace f_s15 := zfb f_s15 kk
  replace f_s20 := zfb f_s20 kk
  replace f_s22 := zfb f_s22 kk
  replace f_s25 := zfb f_s25 kk
  replace f_s26 := zfb f_s26 kk
  replace f_s31 := zfb f_s31 kk
  replace f_s36 := zfb f_s36 kk
  replace f_s37 := zfb f_s37 kk
  replace f_s45 := zfb f_s45 kk
  have Bw33 := zbt HGS Bw32 kk
  clear Bw32 kk
  have f_s47 := o_s47.bs
  simp only [Act.put, zA, zB, zC]
  refine lint_pure 4 (Op.assign (Operand.tmp 47)) 22 (v_s47) rfl rfl rfl rfl rfl (fun w0 hb0 => by unfold mkOp; go_simp; all_goals (with_reducible rfl)) ?_
  simp only [Act.put, zA, zB, zC]
  refine lint_end ?_
  go_wp2
  go_ret
  exact ⟨_, rfl, by rw [← HE.out]; exact o_s47, Bw33⟩
end Go.Proofs.YtonhpmaiagbheaaGreat

/- The document's signatures: Verify. -/
namespace Go.Proofs.YtonhpmaiagbheaaGreat
open Go.RowKit Go.Deep
set_option linter.unusedSimpArgs false
set_option linter.unusedVariables false

end Go.Proofs.YtonhpmaiagbheaaGreat

/- What the laws hold the program against: the document's signatures. -/
namespace Go.Proofs.YtonhpmaiagbheaaGreat
open Go.RowKit Go.Deep
set_option linter.unusedSimpArgs false
set_option linter.unusedVariables false

theorem stp_valB {P : Program} {ops : Array Oper} {Q : Exit → Act → World → Prop} {i : Nat} {r : Stp} {a : Act} {w : World} {o : Oper} {fn : Func} (d : Nat) (x : Operand) (f : Nat) (xs : Array Operand) (ts : Array TypeId) (first args : Array Value) {R : Ending → World → Prop} (hc : Calls P f (first ++ args) w R)
    (ho : ops[i]? = some o) (hd : o.dst = some d) (hop : o.op = .call { callee := .value x, args := xs, argTypes := ts }) (hx : a.eval x = .func (.func f) first #[])
    (hw : Region.wanted o (yielded ops a.tmps) = true) (hf : P.funcs[f]? = some fn) (hn : (fn.name == "runtime.NumGoroutine") = false) (hb : fn.body.isNone = false) (hargs : xs.map a.eval = args)
    (h : ∀ e w', R e w' → ∃ v, e = .returned v ∧ Below w.heap.size w w' ∧ LinT P ops Q r (a.put (some d) v) w') : wpOp P ops Q i (fun a' w' => Below w.heap.size w w' ∧ LinT P ops Q r a' w') a w := by
  refine wpOp_step ho fun K' hK => ?_
  rw [if_pos hw]
  unfold Oper.wp
  have hx : (execOp a.eval o).run P w = .ok (.enter f (first ++ args)) w := by simp [execOp, hop, resolve, hx, Deferred.ofValue, invoke, hargs, run_enter hf hn hb]
  rw [hx]
  refine hc.mono fun e w' hT => ?_
  obtain ⟨v, rfl, h1, h2⟩ := h e w' hT
  exact hK _ _ ⟨h1, by rw [hd]; exact h2⟩
theorem stp_valB1 {P : Program} {ops : Array Oper} {Q : Exit → Act → World → Prop} {i : Nat} {r : Stp} {a : Act} {w : World} {o : Oper} {fn : Func} (d : Nat) (x : Operand) (f : Nat) (xs : Array Operand) (ts : Array TypeId) (p v0 : Value) {R : Ending → World → Prop} (hc : Calls P f #[p, v0] w R)
    (ho : ops[i]? = some o) (hd : o.dst = some d) (hop : o.op = .call { callee := .value x, args := xs, argTypes := ts }) (hx : a.eval x = .func (.func f) #[p] #[])
    (hw : Region.wanted o (yielded ops a.tmps) = true) (hf : P.funcs[f]? = some fn) (hn : (fn.name == "runtime.NumGoroutine") = false) (hb : fn.body.isNone = false) (hargs : xs.map a.eval = #[v0])
    (h : ∀ e w', R e w' → ∃ v, e = .returned v ∧ Below w.heap.size w w' ∧ LinT P ops Q r (a.put (some d) v) w') : wpOp P ops Q i (fun a' w' => Below w.heap.size w w' ∧ LinT P ops Q r a' w') a w :=
  stp_valB d x f xs ts #[p] #[v0] hc ho hd hop hx hw hf hn hb hargs h
theorem edPublic_to (v0 : Value) (l0 p : List UInt8) (w : World) (h0 : Bs w v0 l0) (hl : l0.length < 2 ^ 30) (hp : edPub l0 = p) : Calls Tryz.prog 12 #[v0] w fun e w' => ∃ v, e = .returned v ∧ Owns w' w.heap.size v p ∧ Below w.heap.size w w' := by
  subst hp
  exact edPublic_any v0 l0 w h0 hl
theorem edSign_to (v0 : Value) (l0 : List UInt8) (v1 : Value) (l1 s : List UInt8) (w : World) (h0 : Bs w v0 l0) (h1 : Bs w v1 l1) (hl : l0.length < 2 ^ 30) (hl1 : l1.length < 2 ^ 29) (hs : edSig l0 l1 = s) : Calls Tryz.prog 13 #[v0, v1] w fun e w' => ∃ v, e = .returned v ∧ Owns w' w.heap.size v s ∧ Below w.heap.size w w' := by
  subst hs
  exact edSign_any v0 l0 v1 l1 w h0 h1 hl hl1
end Go.Proofs.YtonhpmaiagbheaaGreat

/- From the reading of an argument to the words of the contracts: a slice of bytes, a slice of slices of bytes. -/
set_option linter.unusedSimpArgs false
set_option linter.unusedVariables false
namespace Go.Proofs.YtonhpmaiagbheaaGreat
open Go.ChangeShapes Go.WideShapes Go.ChangeAt Go.RowKit Go.Deep

/-- The numbers of a row of bytes, as bytes. -/
def asB (zs : List Int) : List UInt8 := zs.map fun n => UInt8.ofNat n.toNat

theorem asB_at (n : Int) (h : 0 ≤ n ∧ n ≤ 255) : ((UInt8.ofNat n.toNat).toNat : Int) = n := by
  rw [UInt8.toNat_ofNat_of_lt' (by show n.toNat < 256; omega)]; omega

/-- A row of numbers whose cells are known, read as bytes. -/
theorem bs_of_cells {W : World} {a : Option Addr} {len cap : Nat} {zs : List Int} (hl : len ≤ cap) (hm : cap ≤ maxLen) (hz : zs.length = cap) (hn : a = none → cap = 0)
    (hwz : ∀ n ∈ zs, (Lit.int .u8 n).wf = true) (hcell : ∀ x, a = some x → ∀ i, i < cap → W.cell? (x.add i) = some (.int .u8 (zs.getD i 0))) : Bs W (.slice a len cap) (asB (zs.take len)) := by
  have hlen : (asB (zs.take len)).length = len := by simp [asB]; omega
  refine ⟨a, cap, by rw [hlen], by omega, hm, hn, fun y hy i hi => ?_⟩
  rw [hlen] at hi
  have hc := hcell y hy i (by omega)
  refine ⟨by rw [← add_block y i]; exact World.block_lt_of_cell? W _ hc, ?_⟩
  rw [hc]
  have hi2 : i < zs.length := by omega
  have hg : zs.getD i 0 = zs[i] := by simp [hi2]
  have hw := bd_u8 (hwz zs[i] (List.getElem_mem _))
  rw [← hg] at hw
  have e : (asB (zs.take len))[i]'(by rw [hlen]; exact hi) = UInt8.ofNat (zs.getD i 0).toNat := by
    simp [asB, List.getElem?_eq_getElem (show i < zs.length by omega)]
  rw [e, asB_at _ hw]

theorem bs_of_trod {H : Type} {enc : TypeId × Value → H} {W : World} {a : Option Addr} {len cap : Nat} {d : DataW H} {ps : List MemPlace}
    (h : DataW.Trod enc Tryz.prog W 0 (fun _ => true) true 22 (.slice a len cap) d ps) : ∃ l, Bs W (.slice a len cap) l := by
  obtain ⟨fuel, hf⟩ := h
  rcases open_ints Tryz.underlying22 Tryz.underlying5 (by kernel_rfl) hf with ⟨hcs, _⟩ | ⟨x, l, c, zs, hcs, _, hl, hm, hz, _, hcell, hwz⟩
  · simp [Value.cells] at hcs
    obtain ⟨rfl, rfl, rfl⟩ := hcs
    exact ⟨[], Bs.nil W⟩
  · simp [Value.cells] at hcs
    obtain ⟨rfl, rfl, rfl⟩ := hcs
    have hz' : zs.length = cap := by simpa using hz
    exact ⟨_, bs_of_cells hl hm hz' (fun h => by cases h) hwz (fun y hy i hi => by cases hy; exact hcell i (by omega))⟩

theorem bss_of_trod {H : Type} {enc : TypeId × Value → H} {W : World} {a : Option Addr} {len cap : Nat} {d : DataW H} {ps : List MemPlace}
    (h : DataW.Trod enc Tryz.prog W 0 (fun _ => true) true 23 (.slice a len cap) d ps) : ∃ L, Bss W (.slice a len cap) L := by
  obtain ⟨fuel, hf⟩ := h
  rcases open_int_rows Tryz.underlying23 Tryz.underlying22 Tryz.underlying5 (by kernel_rfl) (by kernel_rfl) hf with ⟨hcs, _⟩ | ⟨x, l, c, A, L, C, Z, hcs, _, hl, hm, _, hrow⟩
  · simp [Value.cells] at hcs
    obtain ⟨rfl, rfl, rfl⟩ := hcs
    exact ⟨[], none, 0, rfl, by simp, by simp [maxLen], fun _ => rfl, fun y hy => by cases hy⟩
  · simp [Value.cells] at hcs
    obtain ⟨rfl, rfl, rfl⟩ := hcs
    refine ⟨(List.range len).map fun r => asB ((Z r).take (L r)), some x, cap, by simp, by simpa using hl, hm, (fun h => by cases h), fun y hy i hi => ?_⟩
    cases hy
    have hi' : i < len := by simpa using hi
    obtain ⟨g1, g2, g3, g4, g5, g6, g7⟩ := hrow i (by omega)
    refine ⟨by rw [← add_block x i]; exact World.block_lt_of_cell? W _ g1, _, g1, ?_⟩
    have := bs_of_cells g2 g3 g4 g6 g5 (fun y hy j hj => (g7 y hy).2 j hj)
    simpa using this
end Go.Proofs.YtonhpmaiagbheaaGreat
