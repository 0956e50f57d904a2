/- missivelaw2.Sha2Goes: the walk. -/
import Derived.Test.YtgfgnjlbghakfaaAwake2
import Derived.Test.YtgfgnjlbghakfaaAlike
import Derived.Test.YtgfgnjlbghakfaaLint
namespace Go.Proofs.Ytgfgnjlbghakfaa
open Go.RowKit Go.Deep

theorem Owns.grown {w w' : World} {base b : Nat} {v : Value} {l : List UInt8} (h : Owns w base v l) (hg : w.grownBy w' (some b)) (hb : ∀ k, v.ownBlock = some k → k ≠ b) : Owns w' base v l := by
  obtain ⟨h1, h2⟩ := h
  refine ⟨h1, ?_⟩
  rcases h2 with h2 | ⟨g, cap, cur, rfl, hbg, hg', h3⟩
  · exact .inl h2
  · exact .inr ⟨g, cap, cur, rfl, hbg, (hg.block g (Array.getElem?_eq_some_iff.1 hg').1 (fun e => hb g rfl (Option.some.inj e))).trans hg', h3⟩
theorem Owns.lt {w : World} {base : Nat} {v : Value} {l : List UInt8} (h : Owns w base v l) : ∀ k, v.ownBlock = some k → k < w.heap.size := fun k hk => (World.ownsRow.lt h k hk).2

set_option maxHeartbeats 16000000 in
set_option maxRecDepth 100000 in
theorem law_sha2Goes (w : World) (v : Value) (L : List (List UInt8)) (hv : Bss w v L) (vm : Value) (mo : List UInt8) (hm : Bs w vm mo) (k : Int) (hk : (Lit.int .i64 k).wf = true) :
    Calls Try.prog 4 #[v, vm, .int .i64 k] w fun e w' => e = .returned (.bool true) ∧ Below w.heap.size w w' := by
  obtain ⟨hk0, hk1⟩ := bd_i64 hk
  obtain ⟨am, nm, cm, rfl, hnm, f1, f2, hm0⟩ := hm.shape
  have HM := Lib.hid hm0
  have HNM := Lib.hid hnm
  have HV := Lib.hid hv
  obtain ⟨a, cap, rfl, h1, h2, h3, h4⟩ := hv
  clear h3 h4 hm hm0 hnm hk
  unfold maxLen at h2
  go_enter Try.func4, Try.ntmps4
  go_wp2_with fail
  refine (all_any _ L 400 _ HV.out (by omega)).mono ?_
  rintro e w1 ⟨s, rfl, hs, hL, hb1⟩
  by_cases c1 : 400 < s
  · have d1 : (400 : Int) < (s : Int) := by omega
    go_wp2_with (go_at_call 8; refine (awake2_any _).mono ?_; rintro e w2 ⟨rfl, hb2⟩)
    go_ret
    exact ⟨rfl, hb1.trans (hb2.mono hb1.size)⟩
  have d1 : ¬ (400 : Int) < (s : Int) := by omega
  by_cases c2 : 400 < nm
  · have d2 : (400 : Int) < (nm : Int) := by omega
    go_wp2_with (go_at_call 8; refine (awake2_any _).mono ?_; rintro e w2 ⟨rfl, hb2⟩)
    go_ret
    exact ⟨rfl, hb1.trans (hb2.mono hb1.size)⟩
  have d2 : ¬ (400 : Int) < (nm : Int) := by omega
  have hlen : L.flatten.length + L.length ≤ 400 := hL (by omega)
  clear hL
  have hH0 := HashAt.new w1
  have hbA := hb1.alloc hb1.size (.cells (arrOf 73 (hashF zero8 (fun _ => 0) 0)) 35)
  go_wp2_with (first
    | refine wpList_alloc_arr rfl 35 rfl (arrOf 73 (hashF zero8 (fun _ => 0) 0)) zero73 ?_
    | (go_at_call 14; refine (round_any k _ _ hk0 hk1 (by omega) (by omega)).mono ?_; rintro e w2 ⟨rfl, rfl⟩))
  have hsz := hb1.size
  have hbs0 : w1.heap.size + 1 ≤ (w1.alloc (.cells (arrOf 73 (hashF zero8 (fun _ => 0) 0)) 35)).heap.size := by simp
  generalize w1.heap.size = y at *
  obtain ⟨base, hbase⟩ : ∃ base, base = y + 1 := ⟨_, rfl⟩
  rw [← hbase] at hbs0
  have hby : y < base := by omega
  have hwb : w.heap.size ≤ base := by omega
  clear hbase
  go_loopw [8, 9] (fun all i wr => ∃ j : Nat, j ≤ L.length ∧ i = .int .i64 j ∧ HashAt wr y (catTo L j) ∧ Owns wr base all (catTo L j) ∧ base ≤ wr.heap.size ∧ Below w.heap.size w wr) (fun _ i _ => L.length - (intOf i).toNat)
  case atStart => exact ⟨0, Nat.zero_le _, rfl, hH0, Owns.nil _ _, hbs0, hbA⟩
  case round =>
    clear hH0 hbA hbs0
    obtain ⟨j, hj, rfl, HH, HO, hbs, B⟩ := hrel
    by_cases hlt : j < L.length
    · have hsum : (catTo L j).length + L[j].length ≤ L.flatten.length := by
        have := catTo_le L (j + 1)
        rw [catTo_succ L j hlt, List.length_append] at this
        exact this
      have hmo : mo.length ≤ 400 := by rw [HNM.out]; omega
      have hjI : (j : Int) < (L.length : Int) := by omega
      have hyl := HH.lt
      by_cases hjp : (j : Int) = k % ((L.length : Int) + 1)
      focus
        have hjb : ((j : Int) == k % ((L.length : Int) + 1)) = true := beq_iff_eq.2 hjp
        have HJP := Lib.hid hjp
        clear hjp
        have hob := HO.lt
        have hfl : [catTo L j, mo].flatten = catTo L j ++ mo := by simp
        have HFL := Lib.hid hfl
        clear hfl
        go_wp2_with (first
          | (go_at_call 15; refine (hcopy_any y _ _ HH).mono ?_; rintro e w3 ⟨rfl, HC, b3⟩
             replace HH := HashAt.below HH b3 (Nat.le_refl _)
             replace HO := HO.below b3
             have HMo := (HM.out.below B (Nat.le_refl _)).below b3 (Nat.le_refl _)
             have hsz3 := b3.size
             have hwsz := B.size
             replace B := B.trans (Below.mono b3 B.size)
             have hAw : Away (.slice am nm cm) wr.heap.size := HM.out.away hwsz
             clear b3)
          | (go_at_call 16; refine (hadd_any _ (catTo L j) mo _ _ HC HMo hAw (by omega)).mono ?_; rintro e w4 ⟨rfl, HC, g4⟩
             replace HH := HashAt.of_block HH (g4.block y (by omega) (fun e => by have := Option.some.inj e; omega))
             replace HO := HO.grown g4 (fun k hk => by have := hob k hk; omega)
             replace HMo := Bs.touched HMo (Tch.right (x := wr.heap.size) g4) hAw hAw
             replace B := B.grown g4 B.size (by intro k hk; cases hk; exact hwsz)
             replace hbs := Nat.le_trans (Nat.le_trans hbs hsz3) g4.size
             clear g4))
        generalize wr.heap.size = y2 at *
        have hcl : (catTo L j).length ≤ 400 := by omega
        replace hbs : base ≤ w4.drew.heap.size := hbs
        replace HC : HashAt w4.drew y2 _ := HC
        replace HH : HashAt w4.drew y _ := HH
        replace HO : Owns w4.drew base _ _ := HO
        replace HMo : Bs w4.drew _ mo := HMo
        replace B : Below w.heap.size w w4.drew := B.drew
        refine wp_region_lint (.rd 0 (.rd 3 (.rd 4 (.br 1 (.rd 2 (.wr 5 (.wr 6 (.rd 7 (.rd 8 .done))))) 5 (.wr 1 (.rd 2 (.wr 6 (.rd 7 (.rd 8 .done))))))))) (by kernel_rfl) (by kernel_rfl) (by decide) (by kernel_rfl) (fun d _ _ _ _ h => by cases d <;> exact h) ?_
        refine lint_pure 41 (Op.move (Operand.tmp 10)) 37 _ rfl rfl rfl rfl rfl (fun w0 hb0 => by unfold mkOp; go_simp; all_goals (with_reducible rfl)) ?_
        simp only [Act.put, List.setIfInBounds_toArray, List.set_cons_zero, List.set_cons_succ]
        refine lint_pure 44 (Op.move (Operand.tmp 8)) 25 _ rfl rfl rfl rfl rfl (fun w0 hb0 => by unfold mkOp; go_simp; all_goals (with_reducible rfl)) ?_
        simp only [Act.put, List.setIfInBounds_toArray, List.set_cons_zero, List.set_cons_succ]
        refine lint_pure 45 (Op.move (Operand.tmp 1)) 25 _ rfl rfl rfl rfl rfl (fun w0 hb0 => by unfold mkOp; go_simp; all_goals (with_reducible rfl)) ?_
        simp only [Act.put, List.setIfInBounds_toArray, List.set_cons_zero, List.set_cons_succ]
        refine ⟨?_, ?_⟩
        focus
          refine stp_fn 42 17 #[Operand.tmp 41] #[37] _ (hsum_any y2 _ _ HC (by rw [List.length_append]; omega)) rfl rfl rfl rfl Try.func17 (by kernel_rfl) (by kernel_rfl) (by go_simp) ?_
          rintro e w6 ⟨v6, rfl, HS1, b6⟩
          replace hbs := Nat.le_trans hbs (Below.size b6)
          replace HC := HashAt.below HC b6 (Nat.le_refl _)
          replace HH := HashAt.below HH b6 (Nat.le_refl _)
          replace HO := HO.below b6
          replace HMo := Bs.below HMo b6 (Nat.le_refl _)
          replace B := B.trans (Below.mono b6 B.size)
          (try replace HR := Bss.below HR b6 (Nat.le_refl _))
          (try replace HS1 := Bs.below HS1 b6 (Nat.le_refl _))
          (try replace HS2 := Bs.below HS2 b6 (Nat.le_refl _))
          refine ⟨_, rfl, b6, ?_⟩
          simp only [Act.put, List.setIfInBounds_toArray, List.set_cons_zero, List.set_cons_succ]
          refine lint_conv 43 (Operand.tmp 42) _ _ rfl rfl rfl rfl rfl HS1 ?_
          simp only [Act.put, List.setIfInBounds_toArray, List.set_cons_zero, List.set_cons_succ]
          refine stp_rows2 46 (.tmp 44) (.tmp 45) _ rfl rfl rfl rfl rfl HO.bs HMo rfl rfl ?_
          intro w7 v7 HR b7
          replace hbs := Nat.le_trans hbs (Below.size b7)
          replace HC := HashAt.below HC b7 (Nat.le_refl _)
          replace HH := HashAt.below HH b7 (Nat.le_refl _)
          replace HO := HO.below b7
          replace HMo := Bs.below HMo b7 (Nat.le_refl _)
          replace B := B.trans (Below.mono b7 B.size)
          (try replace HS1 := Bs.below HS1 b7 (Nat.le_refl _))
          (try replace HS2 := Bs.below HS2 b7 (Nat.le_refl _))
          simp only [Act.put, List.setIfInBounds_toArray, List.set_cons_zero, List.set_cons_succ]
          refine stp_fn 47 10 #[Operand.tmp 46] #[22] _ (sum256_any _ [catTo L j, mo] _ HR (by simp only [List.flatten_cons, List.flatten_nil, List.append_nil, List.length_append]; omega)) rfl rfl rfl rfl Try.func10 (by kernel_rfl) (by kernel_rfl) (by go_simp) ?_
          rintro e w8 ⟨v8, rfl, HS2, b8⟩
          rw [HFL.out] at HS2
          replace hbs := Nat.le_trans hbs (Below.size b8)
          replace HC := HashAt.below HC b8 (Nat.le_refl _)
          replace HH := HashAt.below HH b8 (Nat.le_refl _)
          replace HO := HO.below b8
          replace HMo := Bs.below HMo b8 (Nat.le_refl _)
          replace B := B.trans (Below.mono b8 B.size)
          (try replace HR := Bss.below HR b8 (Nat.le_refl _))
          (try replace HS1 := Bs.below HS1 b8 (Nat.le_refl _))
          (try replace HS2 := Bs.below HS2 b8 (Nat.le_refl _))
          refine ⟨_, rfl, b8, ?_⟩
          simp only [Act.put, List.setIfInBounds_toArray, List.set_cons_zero, List.set_cons_succ]
          refine lint_conv 48 (Operand.tmp 47) _ _ rfl rfl rfl rfl rfl HS2 ?_
          simp only [Act.put, List.setIfInBounds_toArray, List.set_cons_zero, List.set_cons_succ]
          refine lint_pure 49 (Op.binOp BinOp.neq 9 (Operand.tmp 43) (Operand.tmp 48) 9) 4 _ rfl rfl rfl rfl rfl (fun w0 hb0 => by unfold mkOp; go_simp; all_goals (with_reducible rfl)) ?_
          simp only [Act.put, List.setIfInBounds_toArray, List.set_cons_zero, List.set_cons_succ]
          refine lint_end ?_
        rotate_left
        focus
          refine stp_rows2 46 (.tmp 44) (.tmp 45) _ rfl rfl rfl rfl rfl HO.bs HMo rfl rfl ?_
          intro w7 v7 HR b7
          replace hbs := Nat.le_trans hbs (Below.size b7)
          replace HC := HashAt.below HC b7 (Nat.le_refl _)
          replace HH := HashAt.below HH b7 (Nat.le_refl _)
          replace HO := HO.below b7
          replace HMo := Bs.below HMo b7 (Nat.le_refl _)
          replace B := B.trans (Below.mono b7 B.size)
          (try replace HS1 := Bs.below HS1 b7 (Nat.le_refl _))
          (try replace HS2 := Bs.below HS2 b7 (Nat.le_refl _))
          simp only [Act.put, List.setIfInBounds_toArray, List.set_cons_zero, List.set_cons_succ]
          refine stp_fn 42 17 #[Operand.tmp 41] #[37] _ (hsum_any y2 _ _ HC (by rw [List.length_append]; omega)) rfl rfl rfl rfl Try.func17 (by kernel_rfl) (by kernel_rfl) (by go_simp) ?_
          rintro e w6 ⟨v6, rfl, HS1, b6⟩
          replace hbs := Nat.le_trans hbs (Below.size b6)
          replace HC := HashAt.below HC b6 (Nat.le_refl _)
          replace HH := HashAt.below HH b6 (Nat.le_refl _)
          replace HO := HO.below b6
          replace HMo := Bs.below HMo b6 (Nat.le_refl _)
          replace B := B.trans (Below.mono b6 B.size)
          (try replace HR := Bss.below HR b6 (Nat.le_refl _))
          (try replace HS1 := Bs.below HS1 b6 (Nat.le_refl _))
          (try replace HS2 := Bs.below HS2 b6 (Nat.le_refl _))
          refine ⟨_, rfl, b6, ?_⟩
          simp only [Act.put, List.setIfInBounds_toArray, List.set_cons_zero, List.set_cons_succ]
          refine lint_conv 43 (Operand.tmp 42) _ _ rfl rfl rfl rfl rfl HS1 ?_
          simp only [Act.put, List.setIfInBounds_toArray, List.set_cons_zero, List.set_cons_succ]
          refine stp_fn 47 10 #[Operand.tmp 46] #[22] _ (sum256_any _ [catTo L j, mo] _ HR (by simp only [List.flatten_cons, List.flatten_nil, List.append_nil, List.length_append]; omega)) rfl rfl rfl rfl Try.func10 (by kernel_rfl) (by kernel_rfl) (by go_simp) ?_
          rintro e w8 ⟨v8, rfl, HS2, b8⟩
          rw [HFL.out] at HS2
          replace hbs := Nat.le_trans hbs (Below.size b8)
          replace HC := HashAt.below HC b8 (Nat.le_refl _)
          replace HH := HashAt.below HH b8 (Nat.le_refl _)
          replace HO := HO.below b8
          replace HMo := Bs.below HMo b8 (Nat.le_refl _)
          replace B := B.trans (Below.mono b8 B.size)
          (try replace HR := Bss.below HR b8 (Nat.le_refl _))
          (try replace HS1 := Bs.below HS1 b8 (Nat.le_refl _))
          (try replace HS2 := Bs.below HS2 b8 (Nat.le_refl _))
          refine ⟨_, rfl, b8, ?_⟩
          simp only [Act.put, List.setIfInBounds_toArray, List.set_cons_zero, List.set_cons_succ]
          refine lint_conv 48 (Operand.tmp 47) _ _ rfl rfl rfl rfl rfl HS2 ?_
          simp only [Act.put, List.setIfInBounds_toArray, List.set_cons_zero, List.set_cons_succ]
          refine lint_pure 49 (Op.binOp BinOp.neq 9 (Operand.tmp 43) (Operand.tmp 48) 9) 4 _ rfl rfl rfl rfl rfl (fun w0 hb0 => by unfold mkOp; go_simp; all_goals (with_reducible rfl)) ?_
          simp only [Act.put, List.setIfInBounds_toArray, List.set_cons_zero, List.set_cons_succ]
          refine lint_end ?_
        rotate_left
        all_goals (try clear hob)
      rotate_left
      rotate_left
      rotate_left
      all_goals
        have HMO := Lib.hid hmo
        clear hmo
        obtain ⟨b, off, cap', he, _, _, hbl, hc⟩ := HV.out.open_cons (by omega)
        cases he
        obtain ⟨u, hcj, hu⟩ := hc j hlt
        clear hc
        have hcr := (B.cell (p := ⟨b, off + j, none⟩) hbl).trans hcj
        have HU := Lib.hid (hu.below B (Nat.le_refl _))
        have HAu : Away u y := hu.away hsz
        have hob := Owns.block HO
        clear hu
        go_wp2_with (first
          | (go_at_call 16; refine (hadd_any y (catTo L j) L[j] u _ HH HU.out HAu (by omega)).mono ?_; rintro e w5 ⟨rfl, HH, g5⟩
             replace HO := HO.grown g5 (fun k hk => by have := hob k hk; omega)
             replace HU := Lib.hid (HU.out.touched (Tch.right (x := y) g5) HAu HAu)
             replace B := B.grown g5 B.size (by intro k hk; cases hk; exact hsz)
             replace hbs := Nat.le_trans hbs g5.size
             replace hcr := (B.cell (p := ⟨b, off + j, none⟩) hbl).trans hcj
             clear g5)
          | (refine wpList_app rfl (.tmp 55) (.tmp 59) rfl base _ _ (catTo L j) L[j] HO HU.out rfl rfl (by omega) hbs ?_; intro v6 w6 HO6 gr6
             replace HH := HashAt.of_block HH (gr6.block y HH.lt (fun e => by have := hob y e.symm; omega))
             replace B := B.grown gr6 B.size (fun k hk => Nat.le_trans hwb (hob k hk))
             replace hbs := Nat.le_trans hbs gr6.size
             rw [← catTo_succ L j hlt] at HO6 HH
             clear gr6 HO hob HU hcr))
        have HO := HO6
        clear HO6
        have hcl2 : (catTo L (j + 1)).length ≤ 400 := by have := catTo_le L (j + 1); omega
        replace HH : HashAt w6.drew y _ := HH
        replace HO : Owns w6.drew base _ _ := HO
        replace B : Below w.heap.size w w6.drew := B.drew
        replace hbs : base ≤ w6.drew.heap.size := hbs
        refine wp_region_lint (.rd 2 (.br 0 (.rd 1 (.wr 3 (.wr 4 (.rd 5 (.rd 6 .done))))) 3 (.wr 0 (.rd 1 (.wr 4 (.rd 5 (.rd 6 .done))))))) (by kernel_rfl) (by kernel_rfl) (by decide) (by kernel_rfl) (fun d _ _ _ _ h => by cases d <;> exact h) ?_
        refine lint_pure 63 (Op.move (Operand.tmp 8)) 25 _ rfl rfl rfl rfl rfl (fun w0 hb0 => by unfold mkOp; go_simp; all_goals (with_reducible rfl)) ?_
        simp only [Act.put, List.setIfInBounds_toArray, List.set_cons_zero, List.set_cons_succ]
        refine ⟨?_, ?_⟩
        focus
          refine stp_fn 61 17 #[Operand.tmp 7] #[35] _ (hsum_any y _ _ HH (by omega)) rfl rfl rfl rfl Try.func17 (by kernel_rfl) (by kernel_rfl) (by go_simp) ?_
          rintro e w6 ⟨v6, rfl, HS1, b6⟩
          replace hbs := Nat.le_trans hbs (Below.size b6)
          replace HH := HashAt.below HH b6 (Nat.le_refl _)
          replace HO := HO.below b6
          replace B := B.trans (Below.mono b6 B.size)
          (try replace HR := Bss.below HR b6 (Nat.le_refl _))
          (try replace HS1 := Bs.below HS1 b6 (Nat.le_refl _))
          (try replace HS2 := Bs.below HS2 b6 (Nat.le_refl _))
          refine ⟨_, rfl, b6, ?_⟩
          simp only [Act.put, List.setIfInBounds_toArray, List.set_cons_zero, List.set_cons_succ]
          refine lint_conv 62 (Operand.tmp 61) _ _ rfl rfl rfl rfl rfl HS1 ?_
          simp only [Act.put, List.setIfInBounds_toArray, List.set_cons_zero, List.set_cons_succ]
          refine stp_rows1 64 (.tmp 63) _ rfl rfl rfl rfl rfl HO.bs rfl ?_
          intro w7 v7 HR b7
          replace hbs := Nat.le_trans hbs (Below.size b7)
          replace HH := HashAt.below HH b7 (Nat.le_refl _)
          replace HO := HO.below b7
          replace B := B.trans (Below.mono b7 B.size)
          (try replace HS1 := Bs.below HS1 b7 (Nat.le_refl _))
          (try replace HS2 := Bs.below HS2 b7 (Nat.le_refl _))
          simp only [Act.put, List.setIfInBounds_toArray, List.set_cons_zero, List.set_cons_succ]
          refine stp_fn 65 10 #[Operand.tmp 64] #[22] _ (sum256_any _ [catTo L (j + 1)] _ HR (by simp only [List.flatten_cons, List.flatten_nil, List.append_nil]; omega)) rfl rfl rfl rfl Try.func10 (by kernel_rfl) (by kernel_rfl) (by go_simp) ?_
          rintro e w8 ⟨v8, rfl, HS2, b8⟩
          rw [show [catTo L (j + 1)].flatten = catTo L (j + 1) from by simp] at HS2
          replace hbs := Nat.le_trans hbs (Below.size b8)
          replace HH := HashAt.below HH b8 (Nat.le_refl _)
          replace HO := HO.below b8
          replace B := B.trans (Below.mono b8 B.size)
          (try replace HR := Bss.below HR b8 (Nat.le_refl _))
          (try replace HS1 := Bs.below HS1 b8 (Nat.le_refl _))
          (try replace HS2 := Bs.below HS2 b8 (Nat.le_refl _))
          refine ⟨_, rfl, b8, ?_⟩
          simp only [Act.put, List.setIfInBounds_toArray, List.set_cons_zero, List.set_cons_succ]
          refine lint_conv 66 (Operand.tmp 65) _ _ rfl rfl rfl rfl rfl HS2 ?_
          simp only [Act.put, List.setIfInBounds_toArray, List.set_cons_zero, List.set_cons_succ]
          refine lint_pure 67 (Op.binOp BinOp.neq 9 (Operand.tmp 62) (Operand.tmp 66) 9) 4 _ rfl rfl rfl rfl rfl (fun w0 hb0 => by unfold mkOp; go_simp; all_goals (with_reducible rfl)) ?_
          simp only [Act.put, List.setIfInBounds_toArray, List.set_cons_zero, List.set_cons_succ]
          refine lint_end ?_
        rotate_left
        focus
          refine stp_rows1 64 (.tmp 63) _ rfl rfl rfl rfl rfl HO.bs rfl ?_
          intro w7 v7 HR b7
          replace hbs := Nat.le_trans hbs (Below.size b7)
          replace HH := HashAt.below HH b7 (Nat.le_refl _)
          replace HO := HO.below b7
          replace B := B.trans (Below.mono b7 B.size)
          (try replace HS1 := Bs.below HS1 b7 (Nat.le_refl _))
          (try replace HS2 := Bs.below HS2 b7 (Nat.le_refl _))
          simp only [Act.put, List.setIfInBounds_toArray, List.set_cons_zero, List.set_cons_succ]
          refine stp_fn 61 17 #[Operand.tmp 7] #[35] _ (hsum_any y _ _ HH (by omega)) rfl rfl rfl rfl Try.func17 (by kernel_rfl) (by kernel_rfl) (by go_simp) ?_
          rintro e w6 ⟨v6, rfl, HS1, b6⟩
          replace hbs := Nat.le_trans hbs (Below.size b6)
          replace HH := HashAt.below HH b6 (Nat.le_refl _)
          replace HO := HO.below b6
          replace B := B.trans (Below.mono b6 B.size)
          (try replace HR := Bss.below HR b6 (Nat.le_refl _))
          (try replace HS1 := Bs.below HS1 b6 (Nat.le_refl _))
          (try replace HS2 := Bs.below HS2 b6 (Nat.le_refl _))
          refine ⟨_, rfl, b6, ?_⟩
          simp only [Act.put, List.setIfInBounds_toArray, List.set_cons_zero, List.set_cons_succ]
          refine lint_conv 62 (Operand.tmp 61) _ _ rfl rfl rfl rfl rfl HS1 ?_
          simp only [Act.put, List.setIfInBounds_toArray, List.set_cons_zero, List.set_cons_succ]
          refine stp_fn 65 10 #[Operand.tmp 64] #[22] _ (sum256_any _ [catTo L (j + 1)] _ HR (by simp only [List.flatten_cons, List.flatten_nil, List.append_nil]; omega)) rfl rfl rfl rfl Try.func10 (by kernel_rfl) (by kernel_rfl) (by go_simp) ?_
          rintro e w8 ⟨v8, rfl, HS2, b8⟩
          rw [show [catTo L (j + 1)].flatten = catTo L (j + 1) from by simp] at HS2
          replace hbs := Nat.le_trans hbs (Below.size b8)
          replace HH := HashAt.below HH b8 (Nat.le_refl _)
          replace HO := HO.below b8
          replace B := B.trans (Below.mono b8 B.size)
          (try replace HR := Bss.below HR b8 (Nat.le_refl _))
          (try replace HS1 := Bs.below HS1 b8 (Nat.le_refl _))
          (try replace HS2 := Bs.below HS2 b8 (Nat.le_refl _))
          refine ⟨_, rfl, b8, ?_⟩
          simp only [Act.put, List.setIfInBounds_toArray, List.set_cons_zero, List.set_cons_succ]
          refine lint_conv 66 (Operand.tmp 65) _ _ rfl rfl rfl rfl rfl HS2 ?_
          simp only [Act.put, List.setIfInBounds_toArray, List.set_cons_zero, List.set_cons_succ]
          refine lint_pure 67 (Op.binOp BinOp.neq 9 (Operand.tmp 62) (Operand.tmp 66) 9) 4 _ rfl rfl rfl rfl rfl (fun w0 hb0 => by unfold mkOp; go_simp; all_goals (with_reducible rfl)) ?_
          simp only [Act.put, List.setIfInBounds_toArray, List.set_cons_zero, List.set_cons_succ]
          refine lint_end ?_
        rotate_left
        all_goals go_wp2
        all_goals
          go_roundw
          · exact ⟨j + 1, by omega, by go_num, HH, HO, hbs, B⟩
          · simp [intOf]; omega
    · obtain rfl : j = L.length := by omega
      go_wp2_with (first
        | (go_at_call 16; refine (addNil_any _ _).mono ?_; rintro e w5 ⟨rfl, b5⟩
           replace B := B.trans (b5.mono B.size))
        | (go_at_call 17; refine (sumNil_any _).mono ?_; rintro e w6 ⟨rfl, rfl⟩)
        | (go_at_call 15; refine (copyNil_any _).mono ?_; rintro e w6 ⟨rfl, rfl⟩)
        | (go_at_call 8; refine (awake2_any _).mono ?_; rintro e w7 ⟨rfl, b7⟩
           replace B := B.trans (b7.mono B.size)))
      go_ret
      exact ⟨rfl, B⟩
end Go.Proofs.Ytgfgnjlbghakfaa
