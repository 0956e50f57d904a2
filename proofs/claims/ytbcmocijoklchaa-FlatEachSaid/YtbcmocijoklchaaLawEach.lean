/- missivelaw1.FlatEach: the walk. -/
import Derived.Test.YtbcmocijoklchaaEachAll
import Derived.Test.YtbcmocijoklchaaSame
import Derived.Test.YtbcmocijoklchaaAll
import Derived.Test.YtbcmocijoklchaaEq
import Derived.Test.YtbcmocijoklchaaFlip
import Derived.Test.YtbcmocijoklchaaLin
import Derived.Laws.EntriesVeiled
namespace Go.Proofs.Ytbcmocijoklchaa
open Go.RowKit Go.Deep

theorem flatten_le (L : List (List UInt8)) (i : Nat) : (getL L i).length ≤ L.flatten.length := by
  unfold getL
  by_cases h : i < L.length
  · have e : L.getD i [] = L[i] := by simp [h]
    rw [e]
    have h1 := catTo_succ L i h
    have h2 := catTo_le L (i + 1)
    rw [h1, List.length_append] at h2
    omega
  · have e : L.getD i [] = [] := by simp [h]
    rw [e]; simp

set_option maxHeartbeats 6400000 in
theorem law_flatEach (w : World) (vl : Value) (L : List (List UInt8)) (hvl : Bss w vl L) (x : Int) (hx : (Lit.int .u8 x).wf = true) (how : Int) (hhow : (Lit.int .i64 how).wf = true) :
    Calls Try.prog 5 #[vl, .int .u8 x, .int .i64 how] w fun e w' => e = .returned (.bool true) ∧ Below w.heap.size w w' := by
  obtain ⟨hk0, hk1⟩ := bd_i64 hhow
  obtain ⟨hx0, hx1⟩ := bd_u8 hx
  obtain ⟨c, rfl⟩ : ∃ c : UInt8, x = (c.toNat : Int) := ⟨UInt8.ofNat x.toNat, by rw [UInt8.toNat_ofNat_of_lt' (by show x.toNat < 256; omega)]; omega⟩
  clear hx hhow
  obtain ⟨al, n, cap, rfl, hn, h1, h2, hl⟩ := hvl.shape
  have HL := Lib.hid hl
  have HN := Lib.hid hn
  clear hvl hl hn hx0 hx1
  go_enter Try.func5, Try.ntmps5
  go_wp2_with fail
  refine (all_any _ L 3000 _ HL.out (by omega)).mono ?_
  rintro e w1 ⟨s, rfl, hs1, hs2, B1⟩
  have HS := Lib.hid hs2
  clear hs2
  by_cases c3 : 3000 < s
  · have d3 : (3000 : Int) < (s : Int) := by omega
    go_wp2_with fail
    refine (awake_any _).mono ?_
    rintro e w2 ⟨rfl, hb⟩
    go_wp2
    go_ret
    exact ⟨rfl, B1.trans (hb.mono B1.size)⟩
  have d3 : ¬ (3000 : Int) < (s : Int) := by omega
  have HT : Hid (L.flatten.length ≤ 3000 ∧ L.length ≤ 3000) := Lib.hid (by have := HS.out (by omega); omega)
  have A1 := HL.out.below B1 (Nat.le_refl _)
  go_wp2_with fail
  refine (alikeCat_any _ L _ A1 (by have := HT.out; omega)).mono ?_
  rintro e w2 ⟨vw, rfl, hO, b2⟩
  have hW := hO.bs
  have A2 := A1.below b2 (Nat.le_refl _)
  have B2 : Below w.heap.size w w2 := B1.trans (b2.mono B1.size)
  have h2r0 := Int.emod_nonneg how (b := 2) (by omega)
  have h2r1 := Int.emod_lt_of_pos how (b := 2) (by omega)
  clear hO b2 A1 B1
  go_wp2_with fail
  refine (round_any how 2 _ hk0 hk1 (by omega) (by omega)).mono ?_
  rintro e w3 ⟨rfl, rfl⟩
  have hq : ∀ (fn : Fn) (first cp : Array Value) (w : World), (binOp .eql 45 (.func fn first cp) .nilFunc).run Try.prog w = .ok (.bool false) w := fun _ _ _ _ => by kernel_rfl
  have HQ := Lib.hid hq
  clear hq
  have hcase : how % 2 = 0 ∨ ¬ how % 2 = 0 := by omega
  have HLEN : Hid (∀ i, (getL L i).length ≤ 1000000) := Lib.hid (fun i => by have := flatten_le L i; have := HT.out; omega)
  have HNN : Hid (L.length ≤ 1000000) := Lib.hid (by have := HT.out; omega)
  have HXL : Hid (∀ l, (xorC l c).length = l.length) := Lib.hid (fun l => xorC_length l c)
  rcases hcase with hz | hz
  focus
    have hz1 : (how % 2 == 0) = true := beq_iff_eq.2 hz
    clear hz h2r0 h2r1
    have Bq : Below w2.heap.size w2 ((w2.alloc (.cells #[.int .u8 (c.toNat : Int)] 44)).alloc (.cells #[.func (.func 28) #[] #[]] 47)) := ((Below.refl _ _).alloc (Nat.le_refl _) _).alloc (by simp) _
    have A3 := Lib.hid (A2.below Bq (Nat.le_refl _))
    have W3 := Lib.hid (hW.below Bq (Nat.le_refl _))
    have B3 := Lib.hid (B2.trans (Bq.mono B2.size))
    have c1 : ((w2.alloc (.cells #[.int .u8 (c.toNat : Int)] 44)).alloc (.cells #[.func (.func 28) #[] #[]] 47)).cell? ⟨w2.heap.size + 1, 0, none⟩ = some (.func (.func 28) #[] #[]) := by
      have h := World.cell?_alloc_mark (w2.alloc (.cells #[.int .u8 (c.toNat : Int)] 44)) #[.func (.func 28) #[] #[]] 47 (0, 0) 0
      simp only [World.size_alloc] at h
      exact h
    have c2 : ((w2.alloc (.cells #[.int .u8 (c.toNat : Int)] 44)).alloc (.cells #[.func (.func 28) #[] #[]] 47)).cell? ⟨w2.heap.size, 0, none⟩ = some (.int .u8 (c.toNat : Int)) := by
      rw [World.cell?_alloc_lt _ _ _ (by simp)]
      exact World.cell?_alloc_mark w2 #[.int .u8 (c.toNat : Int)] 44 (0, 0) 0
    have CC := Lib.hid (And.intro c1 c2)
    clear c1 c2 Bq A2 hW B2
    go_wp2_with fail
    refine (each_fn _ L (fun l => xorC l c) _ _ _ _ A3.out HLEN.out HNN.out HXL.out (HQ.out _ _ _) (fun w1 g m l hb hr hm hle => told_cl c g m _ _ l w1 hr hm hle ((hb.cell (by simp)).trans CC.out.1) ((hb.cell (by simp; omega)).trans CC.out.2))).mono ?_
    rintro e w4 ⟨vx, rfl, hX, b4⟩
    have A4 := A3.out.below b4 (Nat.le_refl _)
    have W4 := W3.out.below b4 (Nat.le_refl _)
    have B := B3.out.trans (b4.mono B3.out.size)
    clear b4 A3 W3 B3 CC
  rotate_left
  focus
    have hz1 : (how % 2 == 0) = false := beq_eq_false_iff_ne.2 hz
    clear hz h2r0 h2r1
    have Bq : Below w2.heap.size w2 (w2.alloc (.cells #[.int .u8 (c.toNat : Int)] 44)) := (Below.refl _ _).alloc (Nat.le_refl _) _
    have A3 := Lib.hid (A2.below Bq (Nat.le_refl _))
    have W3 := Lib.hid (hW.below Bq (Nat.le_refl _))
    have B3 := Lib.hid (B2.trans (Bq.mono B2.size))
    clear Bq A2 hW B2
    go_wp2_with fail
    refine (each_fn _ L (fun l => xorC l c) _ _ _ _ A3.out HLEN.out HNN.out HXL.out (HQ.out _ _ _) (fun w1 g m l _ hr hm hle => told_mv c g m l w1 hr hm hle)).mono ?_
    rintro e w4 ⟨vx, rfl, hX, b4⟩
    have A4 := A3.out.below b4 (Nat.le_refl _)
    have W4 := W3.out.below b4 (Nat.le_refl _)
    have B := B3.out.trans (b4.mono B3.out.size)
    clear b4 A3 W3 B3
  all_goals
    go_wp2_with fail
    refine (each_nil _ L _ A4 HLEN.out HNN.out).mono ?_
    rintro e w5 ⟨vy, rfl, hY, b5⟩
    have A5 : Bss w5.drew _ L := A4.below b5.drew (Nat.le_refl _)
    have hW : Bs w5.drew vw L.flatten := W4.below b5.drew (Nat.le_refl _)
    have hX : Bss w5.drew vx (L.map fun l => xorC l c) := hX.below b5.drew (Nat.le_refl _)
    have hY : Bss w5.drew vy L := hY
    have B : Below w.heap.size w w5.drew := (B.trans (b5.mono B.size)).drew
    obtain ⟨ax, nx, cx, rfl, hnx, _, _, hX⟩ := hX.shape
    obtain rfl : n = nx := by rw [List.length_map] at hnx; have := HN.out; omega
    clear hnx b5 A4 W4
    go_wp2_with fail
    refine wp_region_lin [(0, 0), (1, 0), (2, 0), (3, 0), (4, 0), (5, 0), (6, 0), (7, 0), (8, 1), (9, 0), (10, 0), (11, 0), (12, 0), (15, 0), (16, 0), (13, 1), (14, 0), (17, 0), (18, 0)] (by kernel_rfl) (by kernel_rfl) (by decide) (by kernel_rfl) (fun d _ _ _ _ h => by cases d <;> exact h) ?_
    refine lin_pure 34 (Op.move (Operand.tmp 11)) 23 _ rfl rfl rfl rfl rfl (fun w0 => by unfold mkOp; go_simp; all_goals (with_reducible rfl)) ?_
    simp only [Act.put, List.setIfInBounds_toArray, List.set_cons_zero, List.set_cons_succ]
    refine lin_pure 35 (Op.call { callee := Callee.builtin Builtin.len, args := #[Operand.tmp 34], argTypes := #[23] }) 3 _ rfl rfl rfl rfl rfl (fun w0 => by unfold mkOp; go_simp; all_goals (with_reducible rfl)) ?_
    simp only [Act.put, List.setIfInBounds_toArray, List.set_cons_zero, List.set_cons_succ]
    refine lin_pure 36 (Op.move (Operand.tmp 0)) 23 _ rfl rfl rfl rfl rfl (fun w0 => by unfold mkOp; go_simp; all_goals (with_reducible rfl)) ?_
    simp only [Act.put, List.setIfInBounds_toArray, List.set_cons_zero, List.set_cons_succ]
    refine lin_pure 37 (Op.call { callee := Callee.builtin Builtin.len, args := #[Operand.tmp 36], argTypes := #[23] }) 3 _ rfl rfl rfl rfl rfl (fun w0 => by unfold mkOp; go_simp; all_goals (with_reducible rfl)) ?_
    simp only [Act.put, List.setIfInBounds_toArray, List.set_cons_zero, List.set_cons_succ]
    refine lin_pure 38 (Op.binOp BinOp.neq 3 (Operand.tmp 35) (Operand.tmp 37) 3) 4 _ rfl rfl rfl rfl rfl (fun w0 => by unfold mkOp; go_simp; all_goals (with_reducible rfl)) ?_
    simp only [Act.put, List.setIfInBounds_toArray, List.set_cons_zero, List.set_cons_succ]
    refine lin_pure 39 (Op.move (Operand.tmp 38)) 4 _ rfl rfl rfl rfl rfl (fun w0 => by unfold mkOp; go_simp; all_goals (with_reducible rfl)) ?_
    simp only [Act.put, List.setIfInBounds_toArray, List.set_cons_zero, List.set_cons_succ]
    refine lin_pure 40 (Op.move (Operand.tmp 12)) 23 _ rfl rfl rfl rfl rfl (fun w0 => by unfold mkOp; go_simp; all_goals (with_reducible rfl)) ?_
    simp only [Act.put, List.setIfInBounds_toArray, List.set_cons_zero, List.set_cons_succ]
    refine lin_pure 41 (Op.move (Operand.tmp 0)) 23 _ rfl rfl rfl rfl rfl (fun w0 => by unfold mkOp; go_simp; all_goals (with_reducible rfl)) ?_
    simp only [Act.put, List.setIfInBounds_toArray, List.set_cons_zero, List.set_cons_succ]
    refine lin_fn 42 32 #[Operand.tmp 40, Operand.tmp 41] #[23, 23] _ (same_any _ _ L _ hY A5) rfl rfl rfl rfl Try.func32 (by kernel_rfl) (by kernel_rfl) (by go_simp) ?_
    rintro e w6 ⟨rfl, b6⟩
    replace hX := hX.below b6 (Nat.le_refl _)
    replace A5 := A5.below b6 (Nat.le_refl _)
    replace hW := hW.below b6 (Nat.le_refl _)
    replace B := B.trans (b6.mono B.size)
    refine ⟨_, rfl, b6, ?_⟩
    simp only [Act.put, List.setIfInBounds_toArray, List.set_cons_zero, List.set_cons_succ]
    refine lin_pure 43 (Op.unOp UnOp.not 4 (Operand.tmp 42)) 4 _ rfl rfl rfl rfl rfl (fun w0 => by unfold mkOp; go_simp; all_goals (with_reducible rfl)) ?_
    simp only [Act.put, List.setIfInBounds_toArray, List.set_cons_zero, List.set_cons_succ]
    refine lin_pure 44 (Op.pick (Operand.tmp 39) (Operand.const (Value.bool true)) (Operand.tmp 43)) 4 _ rfl rfl rfl rfl rfl (fun w0 => by unfold mkOp; go_simp; all_goals (with_reducible rfl)) ?_
    simp only [Act.put, List.setIfInBounds_toArray, List.set_cons_zero, List.set_cons_succ]
    refine lin_pure 45 (Op.move (Operand.tmp 44)) 4 _ rfl rfl rfl rfl rfl (fun w0 => by unfold mkOp; go_simp; all_goals (with_reducible rfl)) ?_
    simp only [Act.put, List.setIfInBounds_toArray, List.set_cons_zero, List.set_cons_succ]
    refine lin_pure 46 (Op.move (Operand.tmp 0)) 23 _ rfl rfl rfl rfl rfl (fun w0 => by unfold mkOp; go_simp; all_goals (with_reducible rfl)) ?_
    simp only [Act.put, List.setIfInBounds_toArray, List.set_cons_zero, List.set_cons_succ]
    refine lin_pure 49 (Op.move (Operand.tmp 7)) 22 _ rfl rfl rfl rfl rfl (fun w0 => by unfold mkOp; go_simp; all_goals (with_reducible rfl)) ?_
    simp only [Act.put, List.setIfInBounds_toArray, List.set_cons_zero, List.set_cons_succ]
    refine lin_conv 50 (Operand.tmp 49) _ _ rfl rfl rfl rfl rfl (by assumption) ?_
    simp only [Act.put, List.setIfInBounds_toArray, List.set_cons_zero, List.set_cons_succ]
    refine lin_fn 47 15 #[Operand.tmp 46] #[23] _ (alikeCat_any _ L _ A5 (by have := HT.out; omega)) rfl rfl rfl rfl Try.func15 (by kernel_rfl) (by kernel_rfl) (by go_simp) ?_
    rintro e w7 ⟨v7, rfl, hO, b7⟩
    have hC := hO.bs
    replace hX := hX.below b7 (Nat.le_refl _)
    replace A5 := A5.below b7 (Nat.le_refl _)
    replace B := B.trans (b7.mono B.size)
    refine ⟨_, rfl, b7, ?_⟩
    simp only [Act.put, List.setIfInBounds_toArray, List.set_cons_zero, List.set_cons_succ]
    refine lin_conv 48 (Operand.tmp 47) _ _ rfl rfl rfl rfl rfl (by assumption) ?_
    simp only [Act.put, List.setIfInBounds_toArray, List.set_cons_zero, List.set_cons_succ]
    refine lin_pure 51 (Op.binOp BinOp.neq 9 (Operand.tmp 48) (Operand.tmp 50) 9) 4 _ rfl rfl rfl rfl rfl (fun w0 => by unfold mkOp; go_simp; all_goals (with_reducible rfl)) ?_
    simp only [Act.put, List.setIfInBounds_toArray, List.set_cons_zero, List.set_cons_succ]
    refine lin_pure 52 (Op.pick (Operand.tmp 45) (Operand.const (Value.bool true)) (Operand.tmp 51)) 4 _ rfl rfl rfl rfl rfl (fun w0 => by unfold mkOp; go_simp; all_goals (with_reducible rfl)) ?_
    simp only [Act.put, List.setIfInBounds_toArray, List.set_cons_zero, List.set_cons_succ]
    refine lin_end ?_
    have HX := Lib.hid hX
    have HA := Lib.hid A5
    clear hX A5 hW hY hC hO b6 b7
    go_wp2_with fail
    go_loopw [13] (fun i wr => ∃ j : Nat, j ≤ n ∧ i = .int .i64 j ∧ Below w7.heap.size w7 wr) (fun i _ => n - (intOf i).toNat)
    case atStart => exact ⟨0, Nat.zero_le _, rfl, Below.refl _ _⟩
    case round =>
      obtain ⟨j, hj, rfl, hbel⟩ := hrel
      by_cases hlt : j < n
      · have hjl : j < L.length := by rw [HN.out]; exact hlt
        have hjm : j < (L.map fun l => xorC l c).length := by rw [List.length_map]; exact hjl
        obtain ⟨b1, o1, _, he, _, _, l1, hc1⟩ := HX.out.open_n (n := n) (by rw [List.length_map]; exact HN.out) (by omega)
        cases he
        obtain ⟨b2, o2, _, he, _, _, l2, hc2⟩ := HA.out.open_n HN.out (by omega)
        cases he
        obtain ⟨u1, g1, k1⟩ := hc1 j hjm
        obtain ⟨u2, g2, k2⟩ := hc2 j hjl
        have e1 : (L.map fun l => xorC l c)[j] = xorC L[j] c := by simp
        rw [e1] at k1
        clear e1 hc1 hc2
        generalize L[j] = lj at *
        obtain ⟨x1, m1, y1, rfl, hm1, _, hy1, k1⟩ := k1.shape
        obtain ⟨x2, m, y2, rfl, hm, _, hy2, k2⟩ := k2.shape
        obtain rfl : m = m1 := by have := xorC_length lj c; omega
        have K1 := Lib.hid k1
        have K2 := Lib.hid k2
        have HM1 := Lib.hid hm1
        have HM := Lib.hid hm
        clear k1 k2 hm1 hm
        have hcl1 : ∀ wr, Below w7.heap.size w7 wr → wr.cell? ⟨b1, o1 + j, none⟩ = some (.slice x1 m y1) := fun wr hb => (hb.cell (by exact l1)).trans g1
        have hcl2 : ∀ wr, Below w7.heap.size w7 wr → wr.cell? ⟨b2, o2 + j, none⟩ = some (.slice x2 m y2) := fun wr hb => (hb.cell (by exact l2)).trans g2
        have HCL := Lib.hid (And.intro hcl1 hcl2)
        clear hcl1 hcl2 g1 g2
        have hcw1 := HCL.out.1 _ hbel
        have hcw2 := HCL.out.2 _ hbel
        have hi1 : 0 ≤ (j : Int) ∧ (j : Int) < (n : Int) := by omega
        go_wp2_with fail
        go_quiet (fail)
        obtain ⟨wo, hwo⟩ : ∃ wo : World, wo = wr.drewN nq := ⟨_, rfl⟩
        have hbo : Below w7.heap.size w7 wo := by rw [hwo]; exact below_drewN hbel _
        rw [← hwo]
        clear hwo hcw1 hcw2 hbel
        go_wp2_with fail
        go_loopw [14] (fun i wq => ∃ k : Nat, k ≤ m ∧ i = .int .i64 k ∧ Below w7.heap.size w7 wq) (fun i _ => m - (intOf i).toNat)
        case atStart => exact ⟨0, Nat.zero_le _, rfl, hbo⟩
        case round =>
          obtain ⟨k, hk, rfl, hbq⟩ := hrel
          have hcw1 := HCL.out.1 _ hbq
          have hcw2 := HCL.out.2 _ hbq
          by_cases hlk : k < m
          · have hk1 : k < (xorC lj c).length := by rw [HM1.out]; exact hlk
            have hk2 : k < lj.length := by rw [HM.out]; exact hlk
            obtain ⟨p1, q1, _, he, _, _, t1, hd1⟩ := K1.out.open_n HM1.out (by omega)
            cases he
            obtain ⟨p2, q2, _, he, _, _, t2, hd2⟩ := K2.out.open_n HM.out (by omega)
            cases he
            have d1 := (hbq.cell (p := ⟨p1, q1 + k, none⟩) (by exact t1)).trans (hd1 k hk1)
            have d2 := (hbq.cell (p := ⟨p2, q2 + k, none⟩) (by exact t2)).trans (hd2 k hk2)
            have e1 : (xorC lj c)[k] = lj[k] ^^^ c := by simp [xorC]
            rw [e1] at d1
            have hxb := bits_xorB lj[k] c
            have hi2 : 0 ≤ (k : Int) ∧ (k : Int) < (m : Int) := by omega
            clear hd1 hd2 e1
            generalize lj[k] = z at *
            rw [← hxb] at d1
            clear hxb
            generalize hbz : bits .xor .u8 (z.toNat : Int) (c.toNat : Int) = bz at *
            go_wp2_with fail
            go_quiet (fail)
            go_wp2_with fail
            go_roundw
            case rel => exact ⟨k + 1, by omega, by go_num, below_drewN hbq _⟩
            case measure => simp [intOf]; omega
          · obtain rfl : k = m := by omega
            go_wp2_with fail
            go_roundw
            case rel => exact ⟨j + 1, by omega, by go_num, hbq⟩
            case measure => simp [intOf]; omega
      · obtain rfl : j = n := by omega
        go_wp2_with fail
        refine (awake_any _).mono ?_
        rintro e w9 ⟨rfl, hb9⟩
        go_wp2
        go_ret
        exact ⟨rfl, B.trans ((hbel.mono B.size).trans (hb9.mono (Nat.le_trans B.size hbel.size)))⟩
end Go.Proofs.Ytbcmocijoklchaa
