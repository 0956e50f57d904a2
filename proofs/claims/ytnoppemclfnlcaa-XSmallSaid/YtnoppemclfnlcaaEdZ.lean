/- The program's Clamp, Mult, Base, Shared. -/
import Derived.Test.YtnoppemclfnlcaaEdY
import Derived.Test.YtnoppemclfnlcaaEdT
namespace Go.Proofs.Ytnoppemclfnlcaa
open Go.RowKit Go.Deep
set_option linter.unusedSimpArgs false
set_option linter.unusedVariables false

theorem andNot7N (x : Nat) (h : x < 256) : bits .andNot .u8 (x : Int) 7 = ((x / 8 * 8 : Nat) : Int) := by
  have g : ∀ q : Fin 256, bits .andNot .u8 ((q.val : Nat) : Int) 7 = ((q.val / 8 * 8 : Nat) : Int) := by decide +kernel
  exact g ⟨x, h⟩
set_option maxHeartbeats 1000000 in
theorem clamp_any (v : Value) (l : List UInt8) (w : World) (hv : Bs w v l) :
    Calls Try.prog 10 #[v] w fun e w' => e = .returned (.slice (some ⟨w.heap.size, 0, none⟩) 32 32) ∧ w'.rowIs w.heap.size 5 32 (kF (clampN l)) ∧ Below w.heap.size w w' := by
  have e1 := clamp_low l
  have e2 := fun i => clamp_mid l i
  have e3 := clamp_high l
  obtain ⟨K, hK⟩ := nat_var (clampN l)
  rw [← hK] at e1 e2 e3 ⊢
  obtain ⟨x, hx⟩ := nat_var ((l.getD 0 0).toNat)
  obtain ⟨y, hy⟩ := nat_var ((l.getD 31 0).toNat)
  have hx1 : x < 256 := by rw [hx]; exact UInt8.toNat_lt _
  have hy1 : y < 256 := by rw [hy]; exact UInt8.toNat_lt _
  rw [← hx] at e1
  rw [← hy] at e3
  have a1 := andNot7N x hx1
  have a2 := and127N y hy1
  have a3 := or64N y hy1
  obtain ⟨x2, hx2⟩ := nat_var (x / 8 * 8)
  obtain ⟨y2, hy2⟩ := nat_var (y % 128)
  obtain ⟨y3, hy3⟩ := nat_var (y % 64 + 64)
  rw [← hx2] at a1 e1
  rw [← hy2] at a2 a3
  rw [← hy3] at a3 e3
  have HX := Lib.hid hx
  have HY := Lib.hid hy
  have H1 := Lib.hid e1
  have H2 := Lib.hid e2
  have H3 := Lib.hid e3
  clear hK hx hy hx1 hy1 hx2 hy2 hy3 e1 e2 e3
  obtain ⟨a, m, cap, rfl, hm, hc1, hc2, hB0⟩ := hv.shape
  have hmk : ∀ w : World, (Instr.makeSlice 22 (.int .i64 32) (.int .i64 32)).run Try.prog w = .ok (.slice (some ⟨w.heap.size, 0, none⟩) 32 32) (w.alloc (.cells (madeCells #[.int .u8 0] 32) 5)) :=
    fun w => run_make_row' (P := Try.prog) 22 5 (.int .u8 0) 1 Try.underlying22 Try.info5 rfl .i64 .i64 32 (by omega) (by omega) w
  have hmade := World.rowIs_made w (.int .u8 0) 32 5
  have hb1 : Below w.heap.size w (w.alloc (.cells (madeCells #[.int .u8 0] 32) 5)) := (Below.refl _ _).alloc (Nat.le_refl _) _
  have HB := Lib.hid (hB0.below hb1 (Nat.le_refl _))
  have HM := Lib.hid hm
  clear hv hB0 hm
  go_enter Try.func10, Try.ntmps10
  go_wp2_with (refine wpList_copy_bytes rfl (.tmp 5) (.tmp 6) rfl hmade HB.out rfl rfl (by omega) _ rfl ?_; intro w3 hr3 hg3 hs3
               have hr1 : w3.rowIs w.heap.size 5 32 (bytesAt l) := hr3.congr fun i hi => by
                 unfold putN bytesAt
                 by_cases h1 : i < Nat.min l.length 32
                 · rw [if_pos ⟨by omega, by omega⟩, Nat.sub_zero]
                 · have h2 : l.length ≤ i := by
                     have e2 : Nat.min l.length 32 = min l.length 32 := rfl
                     rw [e2] at h1
                     omega
                   rw [if_neg (by omega), List.getD_eq_getElem?_getD, List.getElem?_eq_none h2]
                   rfl
               have hb3 : Below w.heap.size w w3 := hb1.grown hg3 hb1.size (by intro k hk; cases hk; omega)
               have hc0 := hr1.cell (i := 0) (by omega)
               have hf0 := hr1.frozen 0
               have hr2 := hr1.set 0 (.int .u8 (x2 : Int))
               have hc31 := hr2.cell (i := 31) (by omega)
               have hf31 := hr2.frozen 31
               have hr4 := hr2.set 31 (.int .u8 (y3 : Int))
               have hb4 := (hb3.setCell (p := ⟨w.heap.size, 0, none⟩) (Nat.le_refl _) (.int .u8 (x2 : Int))).setCell (p := ⟨w.heap.size, 31, none⟩) (Nat.le_refl _) (.int .u8 (y3 : Int))
               unfold bytesAt at hc0
               rw [← HX.out] at hc0
               rw [if_neg (by decide)] at hc31
               unfold bytesAt at hc31
               rw [← HY.out] at hc31
               clear hr1 hr2 hr3 hg3 hs3 hb3 hmade hb1)
  go_ret
  refine ⟨rfl, hr4.congr fun i hi => ?_, hb4⟩
  unfold kF
  by_cases h31 : i = 31
  · subst h31
    rw [if_pos rfl, H3.out]
  · rw [if_neg h31]
    by_cases h0 : i = 0
    · subst h0
      rw [if_pos rfl, H1.out]
    · rw [if_neg h0, H2.out i (by omega) (by omega)]
      rfl

set_option maxHeartbeats 1000000 in
theorem mult_any (v0 v1 : Value) (l0 l1 : List UInt8) (w : World) (h0 : Bs w v0 l0) (h1 : Bs w v1 l1) :
    Calls Try.prog 12 #[v0, v1] w fun e w' => ∃ v, e = .returned v ∧ Owns w' w.heap.size v (litB (ladder (ofL l1) (clampN l0)) 32) ∧ Below w.heap.size w w' := by
  have HCL := Lib.hid (clamp_any v0 l0 w h0)
  have HV1 := Lib.hid h1
  have HOF := Lib.hid fun v w (h : Bs w v l1) => of_any v l1 w h
  obtain ⟨U, hU⟩ := nat_var (ofL l1)
  have HU : Hid (U < p25) := Lib.hid (by rw [hU]; exact ofL_lt l1)
  obtain ⟨K, hK⟩ := nat_var (clampN l0)
  rw [← hU] at HOF ⊢
  rw [← hK] at HCL ⊢
  obtain ⟨T, hT⟩ := nat_var (ladder U K)
  have HLA := Lib.hid fun gk w (h : World.rowIs w gk 5 32 (kF K)) => climb_any gk K U w h HU.out
  rw [← hT] at HLA ⊢
  have HGS : Hid (∀ wq : World, Below w.heap.size w wq → w.heap.size ≤ wq.heap.size) := Lib.hid fun wq h => h.size
  clear h0 h1 hU hK hT
  go_enter Try.func12, Try.ntmps12
  go_wp2_with (first
    | (go_at_call 10; refine HCL.out.mono ?_; rintro e w1 ⟨rfl, hk1, hb1⟩
       clear HCL)
    | (go_at_call 22; refine (HOF.out _ _ (HV1.out.below hb1 (Nat.le_refl _))).mono ?_; rintro e w2 ⟨rfl, hb2⟩
       have hk2 := hk1.of_block (hb2.block _ hk1.lt)
       have hb3 := hb1.trans (hb2.mono hb1.size)
       clear hk1 hb1 hb2 HV1 HOF)
    | (go_at_call 21; refine (HLA.out _ _ hk2).mono ?_; rintro e w4 ⟨rfl, hb4⟩
       have hb5 := hb3.trans (hb4.mono hb3.size)
       clear hk2 hb3 hb4 HLA)
    | (go_at_call 23; refine (bytes_any T _).mono ?_; rintro e w6 ⟨v6, rfl, hO, hb6⟩
       have hOL := hO.lower hb5.size
       have hb7 := hb5.trans (hb6.mono hb5.size)
       clear hO hb5 hb6))
  go_ret
  exact ⟨_, rfl, hOL, hb7⟩

theorem base_any (v : Value) (l : List UInt8) (w : World) (hv : Bs w v l) :
    Calls Try.prog 14 #[v] w fun e w' => ∃ v', e = .returned v' ∧ Owns w' w.heap.size v' (litB (ladder 9 (clampN l)) 32) ∧ Below w.heap.size w w' := by
  have hB : Bs (w.alloc (.cells #[.int .u8 9] 5)) (.slice (some ⟨w.heap.size, 0, none⟩) 1 1) [9] := Bs.one w 9
  have hb0 := (Below.refl w.heap.size w).alloc (Nat.le_refl _) (.cells #[.int .u8 9] 5)
  have hx := mult_any v _ l [9] (w.alloc (.cells #[.int .u8 9] 5)) (hv.below hb0 (Nat.le_refl _)) hB
  rw [ofL_nine] at hx
  have HX := Lib.hid hx
  have HB0 := Lib.hid hb0
  clear hB hb0 hx hv
  go_enter Try.func14, Try.ntmps14
  go_wp2_with (go_at_call 12; refine HX.out.mono ?_; rintro e w2 ⟨v2, rfl, hO, hb⟩)
  go_ret
  refine ⟨_, rfl, hO.lower (by simp), HB0.out.trans (hb.mono (by simp))⟩

set_option maxHeartbeats 1000000 in
theorem shared_any (v0 v1 : Value) (l0 l1 : List UInt8) (w : World) (h0 : Bs w v0 l0) (h1 : Bs w v1 l1) :
    Calls Try.prog 16 #[v0, v1] w fun e w' => ∃ v, e = .returned (.tuple #[v, .int .i64 (shE l0 l1)]) ∧ Bs w' v (shL l0 l1) ∧ Below w.heap.size w w' := by
  have HX := Lib.hid fun w (h0 : Bs w v0 l0) (h1 : Bs w v1 l1) => mult_any v0 v1 l0 l1 w h0 h1
  have hnil : ∀ w : World, Bs w (.slice none 0 0) [] := fun w => (Owns.nil w 0).bs
  have HN := Lib.hid hnil
  have hr := Below.refl w.heap.size w
  obtain ⟨a0, n0, c0, rfl, e0, f0, g0, hB0⟩ := h0.shape
  obtain ⟨a1, n1, c1, rfl, e1, f1, g1, hB1⟩ := h1.shape
  have H0 := Lib.hid hB0
  have H1 := Lib.hid hB1
  clear h0 h1 hB0 hB1 hnil
  by_cases d0 : l0.length = 32
  · by_cases d1 : l1.length = 32
    · have hE : shE l0 l1 = if shN l0 l1 = 0 then 12 else 0 := by unfold shE; rw [if_pos ⟨d0, d1⟩]
      have hL : shL l0 l1 = if shN l0 l1 ≠ 0 then litB (shN l0 l1) 32 else [] := by
        unfold shL
        by_cases h : shN l0 l1 = 0
        · rw [if_neg (by simp [h]), if_neg (by simp [h])]
        · rw [if_pos ⟨d0, d1, h⟩, if_pos h]
      obtain ⟨s, hs⟩ := nat_var (shN l0 l1)
      have hsl : s < p25 := by rw [hs]; exact ladder_lt _ _
      have HS := Lib.hid hs
      have HSL := Lib.hid hsl
      rw [← hs] at hE hL
      have HE := Lib.hid hE
      have HL := Lib.hid hL
      have hn0 : n0 = 32 := by omega
      have hn1 : n1 = 32 := by omega
      subst hn0
      subst hn1
      have hmk := run_make32f
      have HMK := Lib.hid made32_bs
      have hz : decide (litB s 32 = litB 0 32) = decide (s = 0) := by
        by_cases h : s = 0
        · rw [h]; simp
        · rw [decide_eq_false h, decide_eq_false (fun k => h (litB_inj hsl p25_pos k))]
      have HZ := Lib.hid hz
      clear hE hL hs hsl e0 e1 d0 d1 hz
      by_cases hz0 : s = 0
      · have HZ0 := Lib.hid hz0
        have HD : Hid (decide (litB s 32 = litB 0 32) = true) := Lib.hid (by rw [HZ.out]; exact decide_eq_true hz0)
        clear hz0
        go_enter Try.func16, Try.ntmps16
        go_wp2_with (first
          | (go_at_call 12; refine (HX.out _ H0.out H1.out).mono ?_; rintro e w1 ⟨vs, rfl, hO, hb⟩
             have hX : Bs w1 vs (litB s 32) := by rw [HS.out]; exact hO.bs
             have hXa := hX.below ((Below.refl w1.heap.size w1).alloc (Nat.le_refl _) (.cells (madeCells #[.int .u8 0] 32) 5)) (Nat.le_refl _)
             have hba := hb.alloc hb.size (.cells (madeCells #[.int .u8 0] 32) 5)
             have hZa := HMK.out w1
             clear hO hb hX HX)
          | (go_at_call 31; refine (flatSame_any _ _ _ _ _ hXa hZa).mono ?_; rintro e w3 ⟨rfl, rfl⟩
             rw [HD.out]))
        go_ret2
        exact ⟨.slice none 0 0, by rw [HE.out, if_pos HZ0.out]; rfl, by rw [HL.out, if_neg (fun h => h HZ0.out)]; exact HN.out _, hba⟩
      · have HZ0 := Lib.hid hz0
        have HD : Hid (decide (litB s 32 = litB 0 32) = false) := Lib.hid (by rw [HZ.out]; exact decide_eq_false hz0)
        clear hz0
        go_enter Try.func16, Try.ntmps16
        go_wp2_with (first
          | (go_at_call 12; refine (HX.out _ H0.out H1.out).mono ?_; rintro e w1 ⟨vs, rfl, hO, hb⟩
             have hX : Bs w1 vs (litB s 32) := by rw [HS.out]; exact hO.bs
             have hXa := hX.below ((Below.refl w1.heap.size w1).alloc (Nat.le_refl _) (.cells (madeCells #[.int .u8 0] 32) 5)) (Nat.le_refl _)
             have hba := hb.alloc hb.size (.cells (madeCells #[.int .u8 0] 32) 5)
             have hZa := HMK.out w1
             clear hO hb hX HX)
          | (go_at_call 31; refine (flatSame_any _ _ _ _ _ hXa hZa).mono ?_; rintro e w3 ⟨rfl, rfl⟩
             rw [HD.out]))
        go_ret2
        exact ⟨vs, by rw [HE.out, if_neg HZ0.out]; rfl, by rw [HL.out, if_pos HZ0.out]; exact hXa, hba⟩
    · rw [show shE l0 l1 = 1 by unfold shE; rw [if_neg (fun h => d1 h.2)], show shL l0 l1 = [] by unfold shL; rw [if_neg (fun h => d1 h.2.1)]]
      have hn0 : (n0 : Int) = 32 := by omega
      have hn1 : ¬ (n1 : Int) = 32 := by omega
      clear e0 e1 d0 d1 HX H0 H1
      go_enter Try.func16, Try.ntmps16
      go_wp2
      go_ret2
      exact ⟨_, rfl, HN.out _, hr⟩
  · rw [show shE l0 l1 = 1 by unfold shE; rw [if_neg (fun h => d0 h.1)], show shL l0 l1 = [] by unfold shL; rw [if_neg (fun h => d0 h.1)]]
    have hn0 : ¬ (n0 : Int) = 32 := by omega
    clear e0 e1 d0 HX H0 H1
    go_enter Try.func16, Try.ntmps16
    go_wp2
    go_ret2
    exact ⟨_, rfl, HN.out _, hr⟩
end Go.Proofs.Ytnoppemclfnlcaa
