/- missivelaw2.Sha2Cuts: the walk. -/
import Derived.Test.YtgfgnjlbghakfaaLaws2
import Derived.Test.YtgfgnjlbghakfaaRows2
namespace Go.Proofs.Ytgfgnjlbghakfaa
open Go.RowKit Go.Deep

/-- 's[j:h]' of what reads as bytes; where the part lies is left open, but it reads in whatever world the whole reads in. -/
theorem wpList_bsCut2 {ops : Array Oper} {rest : List Oper} {o : Oper} {a : Act} {w : World} {Q : Exit → Act → World → Prop} (hgd : o.guard = none) (x lo hi : Operand) (ho : o.op = .slice 25 x (some lo) (some hi) none) {ad : Option Addr} {n cap : Nat} {l : List UInt8} (hB : Bs w (.slice ad n cap) l) (j h : Nat) {k k' : IntKind} {i i' : Int}
    (hx : a.eval x = .slice ad n cap) (hlo : a.eval lo = .int k i) (hij : i = (j : Int)) (hhi : a.eval hi = .int k' i') (hih : i' = (h : Int)) (hj : j ≤ h) (hh : h ≤ n) (n' : Nat) (hn' : n' = h - j)
    (H : ∀ ad', (∀ w0, Bs w0 (.slice ad n cap) l → Bs w0 (.slice ad' n' (cap - j)) ((l.drop j).take n')) → wpList Try.prog ops Q rest (a.put o.dst (.slice ad' n' (cap - j))) w) : wpList Try.prog ops Q (o :: rest) a w := by
  subst hn'
  have hB0 := hB
  obtain ⟨a', cap', he, h1, h2, h3, h4⟩ := hB0
  have hnc : n ≤ cap := by cases he; exact h1
  refine wpList_value hgd (.slice (if cap = j then ad else ad.map (·.add j)) (h - j) (cap - j)) (by simp [execOp, ho, hx, hlo, hij, hhi, hih, run_sliceCut (P := Try.prog) w 25 5 ad n cap j h k k' Try.underlying25 (by kernel_rfl) hj (by omega), Result.andThen]) (H _ fun w0 hB => ?_)
  exact (hB.drop (by omega)).take (by omega)

/-- The slices vs read as the rows L. -/
def Reads (w : World) (vs : List Value) (L : List (List UInt8)) : Prop := vs.length = L.length ∧ ∀ i (hi : i < L.length), ∃ u, vs[i]? = some u ∧ Bs w u L[i]
theorem Reads.nil (w : World) : Reads w [] [] := ⟨rfl, fun i hi => by simp at hi⟩
theorem Reads.snoc {w : World} {vs : List Value} {L : List (List UInt8)} (h : Reads w vs L) {u : Value} {l : List UInt8} (hu : Bs w u l) : Reads w (vs ++ [u]) (L ++ [l]) := by
  obtain ⟨h1, h2⟩ := h
  refine ⟨by simp [h1], fun i hi => ?_⟩
  by_cases e : i < L.length
  · obtain ⟨x, hx, hB⟩ := h2 i e
    exact ⟨x, by rw [List.getElem?_append_left (by omega)]; exact hx, by rw [List.getElem_append_left e]; exact hB⟩
  · have e2 : i = L.length := by simp at hi; omega
    subst e2
    exact ⟨u, by rw [List.getElem?_append_right (by omega), h1]; simp, by simp; exact hu⟩
theorem Reads.below {w w' : World} {vs : List Value} {L : List (List UInt8)} {B : Nat} (h : Reads w vs L) (hb : Below B w w') (hB : w.heap.size ≤ B) : Reads w' vs L :=
  ⟨h.1, fun i hi => by obtain ⟨u, hu, hx⟩ := h.2 i hi; exact ⟨u, hu, hx.below hb hB⟩⟩

set_option maxHeartbeats 16000000 in
set_option maxRecDepth 100000 in
theorem law_sha2Cuts (w : World) (vb : Value) (b : List UInt8) (hb : Bs w vb b) (va : Value) (xs : List Int) (ha : Ints w va xs) :
    Calls Try.prog 6 #[vb, va] w fun e w' => e = .returned (.bool true) ∧ Below w.heap.size w w' := by
  obtain ⟨ab, nb, cb, rfl, hnb, f1, f2, hb0⟩ := hb.shape
  have HB := Lib.hid hb0
  have HNB := Lib.hid hnb
  have HA := Lib.hid ha
  obtain ⟨aa, ca, rfl, g1, g2, g3, g4, g5⟩ := ha
  have HW := Lib.hid g4
  clear hb hb0 hnb g3 g4 g5
  unfold maxLen at g2
  by_cases c1 : 400 < nb
  · have d1 : (400 : Int) < (nb : Int) := by omega
    go_enter Try.func6, Try.ntmps6
    go_wp2_with (go_at_call 8; refine (awake2_any _).mono ?_; rintro e w2 ⟨rfl, hb2⟩)
    go_ret
    exact ⟨rfl, hb2⟩
  have d1 : ¬ (400 : Int) < (nb : Int) := by omega
  by_cases c2 : 10 < xs.length
  · have d2 : (10 : Int) < (xs.length : Int) := by omega
    go_enter Try.func6, Try.ntmps6
    go_wp2_with (go_at_call 8; refine (awake2_any _).mono ?_; rintro e w2 ⟨rfl, hb2⟩)
    go_ret
    exact ⟨rfl, hb2⟩
  have d2 : ¬ (10 : Int) < (xs.length : Int) := by omega
  go_enter Try.func6, Try.ntmps6
  go_wp2
  go_loopw [5, 6, 7] (fun l fr i wr => ∃ (j f : Nat) (vs : List Value) (L : List (List UInt8)), j ≤ xs.length ∧ i = .int .i64 j ∧ fr = .int .i64 f ∧ f ≤ nb ∧ OwnsR wr w.heap.size l vs ∧ Hid (vs.length = j) ∧ Reads w vs L ∧ Hid (L.flatten = b.take f) ∧ Below w.heap.size w wr) (fun _ _ i _ => xs.length - (intOf i).toNat)
  case atStart => exact ⟨0, 0, [], [], Nat.zero_le _, rfl, rfl, Nat.zero_le _, OwnsR.nil _ _, rfl, Reads.nil _, by show _ = _; simp, Below.refl _ _⟩
  case round =>
    obtain ⟨j, f, vs, L, hj, rfl, rfl, hf, HO, HVS, HRd, HL, B⟩ := hrel
    by_cases hlt : j < xs.length
    · obtain ⟨ba, offa, ca', he, _, _, hbl, hc⟩ := HA.out.open_cons (by omega)
      cases he
      have hca := (B.cell (p := ⟨ba, offa + j, none⟩) hbl).trans (hc j hlt)
      clear hc
      have hwx := bd_i64 (HW.out xs[j] (List.getElem_mem hlt))
      obtain ⟨r, hr⟩ : ∃ r : Nat, (r : Int) = xs[j] % ((nb : Int) - (f : Int) + 1) := ⟨(xs[j] % ((nb : Int) - (f : Int) + 1)).toNat, by rw [Int.toNat_of_nonneg (Int.emod_nonneg _ (by omega))]⟩
      have hr2 : (r : Int) < (nb : Int) - f + 1 := by rw [hr]; exact Int.emod_lt_of_pos _ (by omega)
      have HRr := Lib.hid hr
      have hrn : f + r ≤ nb := by omega
      clear hr hr2
      obtain ⟨X, hX⟩ : ∃ X, X = xs[j] := ⟨_, rfl⟩
      rw [← hX] at hca hwx
      have HX := Lib.hid hX
      clear hX
      have hjI : (j : Int) < (xs.length : Int) := by omega
      have HBw := Lib.hid (HB.out.below B (Nat.le_refl _))
      go_wp2_with (first
        | (go_at_call 14; refine (round_any X _ _ hwx.1 hwx.2 (by omega) (by omega)).mono ?_; rintro e w2 ⟨rfl, rfl⟩; rw [HX.out, ← HRr.out])
        | (refine wpList_bsCut2 rfl (.tmp 40) (.tmp 41) (.tmp 42) rfl HBw.out f (f + r) rfl rfl (by omega) rfl (by omega) (by omega) (by omega) r (by omega) ?_; intro ad' hB'
           have HC := Lib.hid hB'
           clear hB')
        | (refine wpList_appRow rfl (.tmp 39) (.tmp 44) rfl w.heap.size _ (.slice ad' r (cb - f)) vs _ (World.ownsRow.alloc HO _) (by rw [add_eq]; simp) rfl rfl rfl (by rw [HVS.out]; omega) (by have := B.size; simp; omega) ?_; intro v6 w6 HO6 gr6))
      have B6 : Below w.heap.size w w6 := (B.alloc B.size (.cells #[.slice ad' r (cb - f)] 25)).grown gr6 (by have := B.size; simp; omega) (OwnsR.block HO)
      go_roundw
      case rel =>
        refine ⟨j + 1, f + r, _, L ++ [(b.drop f).take r], by omega, by go_num, by go_num, by omega, HO6, ?_, HRd.snoc (HC.out w HB.out), ?_, B6⟩
        · show _ = _
          rw [List.length_append, HVS.out]; rfl
        · show _ = _
          rw [List.flatten_append, HL.out, List.take_add]
          simp
      case measure => simp [intOf]; omega
    · obtain rfl : j = xs.length := by omega
      have HBw := Lib.hid (HB.out.below B (Nat.le_refl _))
      have hvl : vs.length ≤ 10 := by rw [HVS.out]; omega
      go_wp2_with (first
        | (refine wpList_bsFrom rfl (.tmp 48) (.tmp 49) rfl HBw.out f rfl rfl rfl (by omega) ?_; intro ad' had' hB'
           have hBq : Bs w (.slice ad' (nb - f) (cb - f)) (b.drop f) := by rw [had']; exact HB.out.drop (by omega)
           have HC := Lib.hid hBq
           clear hB' hBq had')
        | (refine wpList_appRow rfl (.tmp 47) (.tmp 51) rfl w.heap.size _ (.slice ad' (nb - f) (cb - f)) vs _ (World.ownsRow.alloc HO _) (by rw [add_eq]; simp) rfl rfl rfl (by omega) (by have := B.size; simp; omega) ?_; intro v6 w6 HO6 gr6
           have B6 : Below w.heap.size w w6 := (B.alloc B.size (.cells #[.slice ad' (nb - f) (cb - f)] 25)).grown gr6 (by have := B.size; simp; omega) (OwnsR.block HO)
           have hH0 := HashAt.new w6
           clear gr6 HO HBw)
        | refine wpList_alloc_arr rfl 35 rfl (arrOf 73 (hashF zero8 (fun _ => 0) 0)) zero73 ?_)
      obtain ⟨M, hM⟩ : ∃ M, M = L ++ [b.drop f] := ⟨_, rfl⟩
      have HRm : Reads w (vs ++ [.slice ad' (nb - f) (cb - f)]) M := by rw [hM]; exact HRd.snoc HC.out
      have HLf : Hid (M.flatten = b) := by
        show _ = _
        rw [hM, List.flatten_append, HL.out]
        simp
      have hml : (vs ++ [Value.slice ad' (nb - f) (cb - f)]).length = M.length := HRm.1
      have hm11 : M.length ≤ 11 := by rw [← hml, List.length_append]; simp; omega
      have HRm6 := HRm.below B6 (Nat.le_refl _)
      have HLs := Lib.hid (OwnsR.bss HO6 M hml (by unfold maxLen; omega) HRm6.2)
      clear hM HRm HRd HL HC HVS HO6 HRm6 hml hvl B
      have HMb : Hid (b.length ≤ 400) := Lib.hid (by rw [HNB.out]; omega)
      obtain ⟨a5, c5, rfl, k1, k2, _⟩ := HLs.out
      have hwy := B6.size
      have hb0 : Below w6.heap.size w6 (w6.alloc (.cells (arrOf 73 (hashF zero8 (fun _ => 0) 0)) 35)) := (Below.refl _ _).alloc (Nat.le_refl _) _
      generalize hy : w6.heap.size = y at *
      have hly : w6.heap.size ≤ y := by omega
      clear hy
      go_loopw [10] (fun i wr => ∃ j : Nat, j ≤ M.length ∧ i = .int .i64 j ∧ HashAt wr y (catTo M j) ∧ Below y w6 wr) (fun i _ => M.length - (intOf i).toNat)
      case atStart => exact ⟨0, Nat.zero_le _, rfl, hH0, hb0⟩
      case round =>
        clear hH0 hb0
        obtain ⟨j, hj, rfl, HH, Bw⟩ := hrel
        by_cases hlt2 : j < M.length
        · have hsum : (catTo M j).length + M[j].length ≤ 400 := by
            have h1 := catTo_le M (j + 1)
            rw [catTo_succ M j hlt2, List.length_append, HLf.out] at h1
            have := HMb.out
            omega
          obtain ⟨bb, off, cap', he, _, _, hbl, hc⟩ := HLs.out.open_cons (by omega)
          cases he
          obtain ⟨u, hcj, hu⟩ := hc j hlt2
          clear hc
          have hcr := (Bw.cell (p := ⟨bb, off + j, none⟩) (Nat.lt_of_lt_of_le hbl hly)).trans hcj
          have HU := Lib.hid (hu.below Bw hly)
          have HAu : Away u y := hu.away hly
          clear hu
          go_wp2_with (go_at_call 16; refine (hadd_any y (catTo M j) M[j] u _ HH HU.out HAu (by omega)).mono ?_; rintro e w7 ⟨rfl, HH7, g7⟩)
          rw [← catTo_succ M j hlt2] at HH7
          have hyw : y ≤ wr.heap.size := Nat.le_of_lt HH.lt
          have Bw7 : Below y w6 w7 := Bw.grown g7 hyw (by intro k hk; cases hk; exact Nat.le_refl _)
          clear HH hcr HU HAu g7
          go_wp2
          go_roundw
          case rel => exact ⟨j + 1, by omega, by go_num, HH7, Bw7⟩
          case measure => simp [intOf]; omega
        · obtain rfl : j = M.length := by omega
          rw [catTo_all M M.length (Nat.le_refl _), HLf.out] at HH
          have Bz := B6.trans (Bw.mono hwy)
          have HBz := HB.out.below Bz (Nat.le_refl _)
          have HLz := HLs.out.below Bw hly
          have HX1 := Lib.hid (Bss.one HBz rfl)
          have Bq := Bz.alloc Bz.size (.cells #[.slice ab nb cb] 25)
          have bq : Below wr.heap.size wr (wr.alloc (.cells #[.slice ab nb cb] 25)) := (Below.refl _ _).alloc (Nat.le_refl _) _
          clear Bw
          go_wp2_with (go_at_call 10; refine (sum256_any _ [b] _ HX1.out (by have := HMb.out; simp; omega)).mono ?_; rintro e w11 ⟨vx, rfl, HX, b11⟩)
          rw [show [b].flatten = b from by simp] at HX
          have HHs : HashAt w11.drew y b := (HH.below bq (Nat.le_refl _)).below (Below.drew b11) (Nat.le_refl _)
          have HBb : Bs w11.drew (.slice ab nb cb) b := (HBz.below bq (Nat.le_refl _)).below (Below.drew b11) (Nat.le_refl _)
          replace HLs : Bss w11.drew _ M := (HLz.below bq (Nat.le_refl _)).below (Below.drew b11) (Nat.le_refl _)
          have B : Below w.heap.size w w11.drew := (Bq.trans (b11.mono Bq.size)).drew
          have hb400 : b.length ≤ 400 := HMb.out
          have lx : (k256.sum b).length = 32 := out_length k256 _ 4 rfl 8
          obtain ⟨ax, nx, cx, rfl, ex, _, _, HX⟩ := HX.shape
          rw [lx] at ex
          subst ex
          replace HX : Bs w11.drew (.slice ax 32 cx) (k256.sum b) := HX
          clear HBz HLz HX1 bq b11 HH Bz Bq lx
          refine wp_region_lint (.rd 0 (.rd 1 (.rd 2 (.rd 3 (.rd 4 (.rd 7 (.rd 8 (.wr 5 (.rd 6 (.rd 9 (.rd 10 (.rd 11 (.rd 14 (.rd 15 (.wr 12 (.rd 13 (.rd 16 (.rd 17 (.rd 18 (.rd 21 (.rd 22 (.wr 19 (.rd 20 (.rd 23 (.rd 24 (.rd 25 (.rd 26 (.rd 29 (.br 27 (.rd 28 (.wr 30 (.wr 31 (.rd 32 (.rd 33 (.rd 34 (.rd 35 (.wr 36 (.rd 37 (.rd 38 .done)))))))))) 30 (.wr 27 (.rd 28 (.wr 31 (.rd 32 (.rd 33 (.rd 34 (.rd 35 (.wr 36 (.rd 37 (.rd 38 .done))))))))))))))))))))))))))))))))))))))) (by kernel_rfl) (by kernel_rfl) (by decide) (by kernel_rfl) (fun d _ _ _ _ h => by cases d <;> exact h) ?_
          refine lint_pure 67 (Op.move (Operand.tmp 11)) 25 _ rfl rfl rfl rfl rfl (fun w0 hb0 => by unfold mkOp; go_simp; all_goals (with_reducible rfl)) ?_
          simp only [Act.put, List.setIfInBounds_toArray, List.set_cons_zero, List.set_cons_succ]
          refine lint_pure 68 (Op.call { callee := Callee.builtin Builtin.len, args := #[Operand.tmp 67], argTypes := #[25] }) 3 _ rfl rfl rfl rfl rfl (fun w0 hb0 => by unfold mkOp; go_simp; all_goals (with_reducible rfl)) ?_
          simp only [Act.put, List.setIfInBounds_toArray, List.set_cons_zero, List.set_cons_succ]
          refine lint_pure 69 (Op.binOp BinOp.eql 3 (Operand.tmp 68) (Operand.const (Value.int IntKind.i64 32)) 3) 4 _ rfl rfl rfl rfl rfl (fun w0 hb0 => by unfold mkOp; go_simp; all_goals (with_reducible rfl)) ?_
          simp only [Act.put, List.setIfInBounds_toArray, List.set_cons_zero, List.set_cons_succ]
          refine lint_pure 70 (Op.move (Operand.tmp 69)) 4 _ rfl rfl rfl rfl rfl (fun w0 hb0 => by unfold mkOp; go_simp; all_goals (with_reducible rfl)) ?_
          simp only [Act.put, List.setIfInBounds_toArray, List.set_cons_zero, List.set_cons_succ]
          refine lint_pure 71 (Op.move (Operand.tmp 5)) 22 _ rfl rfl rfl rfl rfl (fun w0 hb0 => by unfold mkOp; go_simp; all_goals (with_reducible rfl)) ?_
          simp only [Act.put, List.setIfInBounds_toArray, List.set_cons_zero, List.set_cons_succ]
          refine lint_pure 74 (Op.move (Operand.tmp 11)) 25 _ rfl rfl rfl rfl rfl (fun w0 hb0 => by unfold mkOp; go_simp; all_goals (with_reducible rfl)) ?_
          simp only [Act.put, List.setIfInBounds_toArray, List.set_cons_zero, List.set_cons_succ]
          refine lint_conv 75 (Operand.tmp 74) _ _ rfl rfl rfl rfl rfl HX ?_
          simp only [Act.put, List.setIfInBounds_toArray, List.set_cons_zero, List.set_cons_succ]
          refine stp_fn 72 10 #[Operand.tmp 71] #[22] _ (sum256_any _ M _ HLs (by rw [HLf.out]; omega)) rfl rfl rfl rfl Try.func10 (by kernel_rfl) (by kernel_rfl) (by go_simp) ?_
          rintro e w72 ⟨v72, rfl, HS1, b72⟩
          rw [HLf.out] at HS1
          replace HLs := Bss.below HLs b72 (Nat.le_refl _)
          replace HHs := HashAt.below HHs b72 (Nat.le_refl _)
          replace HX := Bs.below HX b72 (Nat.le_refl _)
          replace HBb := Bs.below HBb b72 (Nat.le_refl _)
          replace B := B.trans (Below.mono b72 B.size)
          (try replace HR := Bss.below HR b72 (Nat.le_refl _))
          (try replace HS1 := Bs.below HS1 b72 (Nat.le_refl _))
          (try replace HS2 := Bs.below HS2 b72 (Nat.le_refl _))
          (try replace HS3 := Bs.below HS3 b72 (Nat.le_refl _))
          (try replace HS4 := Bs.below HS4 b72 (Nat.le_refl _))
          (try replace HS5 := Bs.below HS5 b72 (Nat.le_refl _))
          refine ⟨_, rfl, b72, ?_⟩
          simp only [Act.put, List.setIfInBounds_toArray, List.set_cons_zero, List.set_cons_succ]
          refine lint_conv 73 (Operand.tmp 72) _ _ rfl rfl rfl rfl rfl HS1 ?_
          simp only [Act.put, List.setIfInBounds_toArray, List.set_cons_zero, List.set_cons_succ]
          refine lint_pure 76 (Op.binOp BinOp.eql 9 (Operand.tmp 73) (Operand.tmp 75) 9) 4 _ rfl rfl rfl rfl rfl (fun w0 hb0 => by unfold mkOp; go_simp; all_goals (with_reducible rfl)) ?_
          simp only [Act.put, List.setIfInBounds_toArray, List.set_cons_zero, List.set_cons_succ]
          refine lint_pure 77 (Op.pick (Operand.tmp 70) (Operand.tmp 76) (Operand.const (Value.bool false))) 4 _ rfl rfl rfl rfl rfl (fun w0 hb0 => by unfold mkOp; go_simp; all_goals (with_reducible rfl)) ?_
          simp only [Act.put, List.setIfInBounds_toArray, List.set_cons_zero, List.set_cons_succ]
          refine lint_pure 78 (Op.move (Operand.tmp 77)) 4 _ rfl rfl rfl rfl rfl (fun w0 hb0 => by unfold mkOp; go_simp; all_goals (with_reducible rfl)) ?_
          simp only [Act.put, List.setIfInBounds_toArray, List.set_cons_zero, List.set_cons_succ]
          refine lint_pure 81 (Op.move (Operand.tmp 11)) 25 _ rfl rfl rfl rfl rfl (fun w0 hb0 => by unfold mkOp; go_simp; all_goals (with_reducible rfl)) ?_
          simp only [Act.put, List.setIfInBounds_toArray, List.set_cons_zero, List.set_cons_succ]
          refine lint_conv 82 (Operand.tmp 81) _ _ rfl rfl rfl rfl rfl HX ?_
          simp only [Act.put, List.setIfInBounds_toArray, List.set_cons_zero, List.set_cons_succ]
          refine stp_fn 79 17 #[Operand.tmp 9] #[35] _ (hsum_any y _ _ HHs (by omega)) rfl rfl rfl rfl Try.func17 (by kernel_rfl) (by kernel_rfl) (by go_simp) ?_
          rintro e w79 ⟨v79, rfl, HS2, b79⟩
          replace HLs := Bss.below HLs b79 (Nat.le_refl _)
          replace HHs := HashAt.below HHs b79 (Nat.le_refl _)
          replace HX := Bs.below HX b79 (Nat.le_refl _)
          replace HBb := Bs.below HBb b79 (Nat.le_refl _)
          replace B := B.trans (Below.mono b79 B.size)
          (try replace HR := Bss.below HR b79 (Nat.le_refl _))
          (try replace HS1 := Bs.below HS1 b79 (Nat.le_refl _))
          (try replace HS2 := Bs.below HS2 b79 (Nat.le_refl _))
          (try replace HS3 := Bs.below HS3 b79 (Nat.le_refl _))
          (try replace HS4 := Bs.below HS4 b79 (Nat.le_refl _))
          (try replace HS5 := Bs.below HS5 b79 (Nat.le_refl _))
          refine ⟨_, rfl, b79, ?_⟩
          simp only [Act.put, List.setIfInBounds_toArray, List.set_cons_zero, List.set_cons_succ]
          refine lint_conv 80 (Operand.tmp 79) _ _ rfl rfl rfl rfl rfl HS2 ?_
          simp only [Act.put, List.setIfInBounds_toArray, List.set_cons_zero, List.set_cons_succ]
          refine lint_pure 83 (Op.binOp BinOp.eql 9 (Operand.tmp 80) (Operand.tmp 82) 9) 4 _ rfl rfl rfl rfl rfl (fun w0 hb0 => by unfold mkOp; go_simp; all_goals (with_reducible rfl)) ?_
          simp only [Act.put, List.setIfInBounds_toArray, List.set_cons_zero, List.set_cons_succ]
          refine lint_pure 84 (Op.pick (Operand.tmp 78) (Operand.tmp 83) (Operand.const (Value.bool false))) 4 _ rfl rfl rfl rfl rfl (fun w0 hb0 => by unfold mkOp; go_simp; all_goals (with_reducible rfl)) ?_
          simp only [Act.put, List.setIfInBounds_toArray, List.set_cons_zero, List.set_cons_succ]
          refine lint_pure 85 (Op.move (Operand.tmp 84)) 4 _ rfl rfl rfl rfl rfl (fun w0 hb0 => by unfold mkOp; go_simp; all_goals (with_reducible rfl)) ?_
          simp only [Act.put, List.setIfInBounds_toArray, List.set_cons_zero, List.set_cons_succ]
          refine lint_pure 88 (Op.move (Operand.tmp 11)) 25 _ rfl rfl rfl rfl rfl (fun w0 hb0 => by unfold mkOp; go_simp; all_goals (with_reducible rfl)) ?_
          simp only [Act.put, List.setIfInBounds_toArray, List.set_cons_zero, List.set_cons_succ]
          refine lint_conv 89 (Operand.tmp 88) _ _ rfl rfl rfl rfl rfl HX ?_
          simp only [Act.put, List.setIfInBounds_toArray, List.set_cons_zero, List.set_cons_succ]
          refine stp_fn 86 17 #[Operand.tmp 9] #[35] _ (hsum_any y _ _ HHs (by omega)) rfl rfl rfl rfl Try.func17 (by kernel_rfl) (by kernel_rfl) (by go_simp) ?_
          rintro e w86 ⟨v86, rfl, HS3, b86⟩
          replace HLs := Bss.below HLs b86 (Nat.le_refl _)
          replace HHs := HashAt.below HHs b86 (Nat.le_refl _)
          replace HX := Bs.below HX b86 (Nat.le_refl _)
          replace HBb := Bs.below HBb b86 (Nat.le_refl _)
          replace B := B.trans (Below.mono b86 B.size)
          (try replace HR := Bss.below HR b86 (Nat.le_refl _))
          (try replace HS1 := Bs.below HS1 b86 (Nat.le_refl _))
          (try replace HS2 := Bs.below HS2 b86 (Nat.le_refl _))
          (try replace HS3 := Bs.below HS3 b86 (Nat.le_refl _))
          (try replace HS4 := Bs.below HS4 b86 (Nat.le_refl _))
          (try replace HS5 := Bs.below HS5 b86 (Nat.le_refl _))
          refine ⟨_, rfl, b86, ?_⟩
          simp only [Act.put, List.setIfInBounds_toArray, List.set_cons_zero, List.set_cons_succ]
          refine lint_conv 87 (Operand.tmp 86) _ _ rfl rfl rfl rfl rfl HS3 ?_
          simp only [Act.put, List.setIfInBounds_toArray, List.set_cons_zero, List.set_cons_succ]
          refine lint_pure 90 (Op.binOp BinOp.eql 9 (Operand.tmp 87) (Operand.tmp 89) 9) 4 _ rfl rfl rfl rfl rfl (fun w0 hb0 => by unfold mkOp; go_simp; all_goals (with_reducible rfl)) ?_
          simp only [Act.put, List.setIfInBounds_toArray, List.set_cons_zero, List.set_cons_succ]
          refine lint_pure 91 (Op.pick (Operand.tmp 85) (Operand.tmp 90) (Operand.const (Value.bool false))) 4 _ rfl rfl rfl rfl rfl (fun w0 hb0 => by unfold mkOp; go_simp; all_goals (with_reducible rfl)) ?_
          simp only [Act.put, List.setIfInBounds_toArray, List.set_cons_zero, List.set_cons_succ]
          refine lint_pure 92 (Op.move (Operand.tmp 91)) 4 _ rfl rfl rfl rfl rfl (fun w0 hb0 => by unfold mkOp; go_simp; all_goals (with_reducible rfl)) ?_
          simp only [Act.put, List.setIfInBounds_toArray, List.set_cons_zero, List.set_cons_succ]
          refine lint_pure 93 (Op.move (Operand.tmp 5)) 22 _ rfl rfl rfl rfl rfl (fun w0 hb0 => by unfold mkOp; go_simp; all_goals (with_reducible rfl)) ?_
          simp only [Act.put, List.setIfInBounds_toArray, List.set_cons_zero, List.set_cons_succ]
          refine lint_pure 96 (Op.move (Operand.tmp 0)) 25 _ rfl rfl rfl rfl rfl (fun w0 hb0 => by unfold mkOp; go_simp; all_goals (with_reducible rfl)) ?_
          simp only [Act.put, List.setIfInBounds_toArray, List.set_cons_zero, List.set_cons_succ]
          refine ⟨?_, ?_⟩
          focus
            refine stp_fn 94 12 #[Operand.tmp 93] #[22] _ (sum512_any _ M _ HLs (by rw [HLf.out]; omega)) rfl rfl rfl rfl Try.func12 (by kernel_rfl) (by kernel_rfl) (by go_simp) ?_
            rintro e w94 ⟨v94, rfl, HS4, b94⟩
            rw [HLf.out] at HS4
            replace HLs := Bss.below HLs b94 (Nat.le_refl _)
            replace HHs := HashAt.below HHs b94 (Nat.le_refl _)
            replace HX := Bs.below HX b94 (Nat.le_refl _)
            replace HBb := Bs.below HBb b94 (Nat.le_refl _)
            replace B := B.trans (Below.mono b94 B.size)
            (try replace HR := Bss.below HR b94 (Nat.le_refl _))
            (try replace HS1 := Bs.below HS1 b94 (Nat.le_refl _))
            (try replace HS2 := Bs.below HS2 b94 (Nat.le_refl _))
            (try replace HS3 := Bs.below HS3 b94 (Nat.le_refl _))
            (try replace HS4 := Bs.below HS4 b94 (Nat.le_refl _))
            (try replace HS5 := Bs.below HS5 b94 (Nat.le_refl _))
            refine ⟨_, rfl, b94, ?_⟩
            simp only [Act.put, List.setIfInBounds_toArray, List.set_cons_zero, List.set_cons_succ]
            refine lint_conv 95 (Operand.tmp 94) _ _ rfl rfl rfl rfl rfl HS4 ?_
            simp only [Act.put, List.setIfInBounds_toArray, List.set_cons_zero, List.set_cons_succ]
            refine stp_rows1 97 (.tmp 96) _ rfl rfl rfl rfl rfl HBb rfl ?_
            intro w97 v97 HR b97
            replace HLs := Bss.below HLs b97 (Nat.le_refl _)
            replace HHs := HashAt.below HHs b97 (Nat.le_refl _)
            replace HX := Bs.below HX b97 (Nat.le_refl _)
            replace HBb := Bs.below HBb b97 (Nat.le_refl _)
            replace B := B.trans (Below.mono b97 B.size)
            (try replace HS1 := Bs.below HS1 b97 (Nat.le_refl _))
            (try replace HS2 := Bs.below HS2 b97 (Nat.le_refl _))
            (try replace HS3 := Bs.below HS3 b97 (Nat.le_refl _))
            (try replace HS4 := Bs.below HS4 b97 (Nat.le_refl _))
            (try replace HS5 := Bs.below HS5 b97 (Nat.le_refl _))
            simp only [Act.put, List.setIfInBounds_toArray, List.set_cons_zero, List.set_cons_succ]
            refine stp_fn 98 12 #[Operand.tmp 97] #[22] _ (sum512_any _ [b] _ HR (by simp; omega)) rfl rfl rfl rfl Try.func12 (by kernel_rfl) (by kernel_rfl) (by go_simp) ?_
            rintro e w98 ⟨v98, rfl, HS5, b98⟩
            rw [show [b].flatten = b from by simp] at HS5
            replace HLs := Bss.below HLs b98 (Nat.le_refl _)
            replace HHs := HashAt.below HHs b98 (Nat.le_refl _)
            replace HX := Bs.below HX b98 (Nat.le_refl _)
            replace HBb := Bs.below HBb b98 (Nat.le_refl _)
            replace B := B.trans (Below.mono b98 B.size)
            (try replace HR := Bss.below HR b98 (Nat.le_refl _))
            (try replace HS1 := Bs.below HS1 b98 (Nat.le_refl _))
            (try replace HS2 := Bs.below HS2 b98 (Nat.le_refl _))
            (try replace HS3 := Bs.below HS3 b98 (Nat.le_refl _))
            (try replace HS4 := Bs.below HS4 b98 (Nat.le_refl _))
            (try replace HS5 := Bs.below HS5 b98 (Nat.le_refl _))
            refine ⟨_, rfl, b98, ?_⟩
            simp only [Act.put, List.setIfInBounds_toArray, List.set_cons_zero, List.set_cons_succ]
            refine lint_conv 99 (Operand.tmp 98) _ _ rfl rfl rfl rfl rfl HS5 ?_
            simp only [Act.put, List.setIfInBounds_toArray, List.set_cons_zero, List.set_cons_succ]
            refine lint_pure 100 (Op.binOp BinOp.eql 9 (Operand.tmp 95) (Operand.tmp 99) 9) 4 _ rfl rfl rfl rfl rfl (fun w0 hb0 => by unfold mkOp; go_simp; all_goals (with_reducible rfl)) ?_
            simp only [Act.put, List.setIfInBounds_toArray, List.set_cons_zero, List.set_cons_succ]
            refine lint_pure 101 (Op.pick (Operand.tmp 92) (Operand.tmp 100) (Operand.const (Value.bool false))) 4 _ rfl rfl rfl rfl rfl (fun w0 hb0 => by unfold mkOp; go_simp; all_goals (with_reducible rfl)) ?_
            simp only [Act.put, List.setIfInBounds_toArray, List.set_cons_zero, List.set_cons_succ]
            refine lint_pure 102 (Op.move (Operand.tmp 101)) 4 _ rfl rfl rfl rfl rfl (fun w0 hb0 => by unfold mkOp; go_simp; all_goals (with_reducible rfl)) ?_
            simp only [Act.put, List.setIfInBounds_toArray, List.set_cons_zero, List.set_cons_succ]
            refine stp_fn 103 8 #[] #[] _ (awake2_any _) rfl rfl rfl rfl Try.func8 (by kernel_rfl) (by kernel_rfl) (by go_simp) ?_
            rintro e w103 ⟨rfl, b103⟩
            replace B := B.trans (Below.mono b103 B.size)
            refine ⟨_, rfl, b103, ?_⟩
            simp only [Act.put, List.setIfInBounds_toArray, List.set_cons_zero, List.set_cons_succ]
            refine lint_pure 104 (Op.pick (Operand.tmp 102) (Operand.tmp 103) (Operand.const (Value.bool false))) 4 _ rfl rfl rfl rfl rfl (fun w0 hb0 => by unfold mkOp; go_simp; all_goals (with_reducible rfl)) ?_
            simp only [Act.put, List.setIfInBounds_toArray, List.set_cons_zero, List.set_cons_succ]
            refine lint_pure 4 (Op.assign (Operand.tmp 104)) 4 _ rfl rfl rfl rfl rfl (fun w0 hb0 => by unfold mkOp; go_simp; all_goals (with_reducible rfl)) ?_
            simp only [Act.put, List.setIfInBounds_toArray, List.set_cons_zero, List.set_cons_succ]
            refine lint_end ?_
          rotate_left
          focus
            refine stp_rows1 97 (.tmp 96) _ rfl rfl rfl rfl rfl HBb rfl ?_
            intro w97 v97 HR b97
            replace HLs := Bss.below HLs b97 (Nat.le_refl _)
            replace HHs := HashAt.below HHs b97 (Nat.le_refl _)
            replace HX := Bs.below HX b97 (Nat.le_refl _)
            replace HBb := Bs.below HBb b97 (Nat.le_refl _)
            replace B := B.trans (Below.mono b97 B.size)
            (try replace HS1 := Bs.below HS1 b97 (Nat.le_refl _))
            (try replace HS2 := Bs.below HS2 b97 (Nat.le_refl _))
            (try replace HS3 := Bs.below HS3 b97 (Nat.le_refl _))
            (try replace HS4 := Bs.below HS4 b97 (Nat.le_refl _))
            (try replace HS5 := Bs.below HS5 b97 (Nat.le_refl _))
            simp only [Act.put, List.setIfInBounds_toArray, List.set_cons_zero, List.set_cons_succ]
            refine stp_fn 94 12 #[Operand.tmp 93] #[22] _ (sum512_any _ M _ HLs (by rw [HLf.out]; omega)) rfl rfl rfl rfl Try.func12 (by kernel_rfl) (by kernel_rfl) (by go_simp) ?_
            rintro e w94 ⟨v94, rfl, HS4, b94⟩
            rw [HLf.out] at HS4
            replace HLs := Bss.below HLs b94 (Nat.le_refl _)
            replace HHs := HashAt.below HHs b94 (Nat.le_refl _)
            replace HX := Bs.below HX b94 (Nat.le_refl _)
            replace HBb := Bs.below HBb b94 (Nat.le_refl _)
            replace B := B.trans (Below.mono b94 B.size)
            (try replace HR := Bss.below HR b94 (Nat.le_refl _))
            (try replace HS1 := Bs.below HS1 b94 (Nat.le_refl _))
            (try replace HS2 := Bs.below HS2 b94 (Nat.le_refl _))
            (try replace HS3 := Bs.below HS3 b94 (Nat.le_refl _))
            (try replace HS4 := Bs.below HS4 b94 (Nat.le_refl _))
            (try replace HS5 := Bs.below HS5 b94 (Nat.le_refl _))
            refine ⟨_, rfl, b94, ?_⟩
            simp only [Act.put, List.setIfInBounds_toArray, List.set_cons_zero, List.set_cons_succ]
            refine lint_conv 95 (Operand.tmp 94) _ _ rfl rfl rfl rfl rfl HS4 ?_
            simp only [Act.put, List.setIfInBounds_toArray, List.set_cons_zero, List.set_cons_succ]
            refine stp_fn 98 12 #[Operand.tmp 97] #[22] _ (sum512_any _ [b] _ HR (by simp; omega)) rfl rfl rfl rfl Try.func12 (by kernel_rfl) (by kernel_rfl) (by go_simp) ?_
            rintro e w98 ⟨v98, rfl, HS5, b98⟩
            rw [show [b].flatten = b from by simp] at HS5
            replace HLs := Bss.below HLs b98 (Nat.le_refl _)
            replace HHs := HashAt.below HHs b98 (Nat.le_refl _)
            replace HX := Bs.below HX b98 (Nat.le_refl _)
            replace HBb := Bs.below HBb b98 (Nat.le_refl _)
            replace B := B.trans (Below.mono b98 B.size)
            (try replace HR := Bss.below HR b98 (Nat.le_refl _))
            (try replace HS1 := Bs.below HS1 b98 (Nat.le_refl _))
            (try replace HS2 := Bs.below HS2 b98 (Nat.le_refl _))
            (try replace HS3 := Bs.below HS3 b98 (Nat.le_refl _))
            (try replace HS4 := Bs.below HS4 b98 (Nat.le_refl _))
            (try replace HS5 := Bs.below HS5 b98 (Nat.le_refl _))
            refine ⟨_, rfl, b98, ?_⟩
            simp only [Act.put, List.setIfInBounds_toArray, List.set_cons_zero, List.set_cons_succ]
            refine lint_conv 99 (Operand.tmp 98) _ _ rfl rfl rfl rfl rfl HS5 ?_
            simp only [Act.put, List.setIfInBounds_toArray, List.set_cons_zero, List.set_cons_succ]
            refine lint_pure 100 (Op.binOp BinOp.eql 9 (Operand.tmp 95) (Operand.tmp 99) 9) 4 _ rfl rfl rfl rfl rfl (fun w0 hb0 => by unfold mkOp; go_simp; all_goals (with_reducible rfl)) ?_
            simp only [Act.put, List.setIfInBounds_toArray, List.set_cons_zero, List.set_cons_succ]
            refine lint_pure 101 (Op.pick (Operand.tmp 92) (Operand.tmp 100) (Operand.const (Value.bool false))) 4 _ rfl rfl rfl rfl rfl (fun w0 hb0 => by unfold mkOp; go_simp; all_goals (with_reducible rfl)) ?_
            simp only [Act.put, List.setIfInBounds_toArray, List.set_cons_zero, List.set_cons_succ]
            refine lint_pure 102 (Op.move (Operand.tmp 101)) 4 _ rfl rfl rfl rfl rfl (fun w0 hb0 => by unfold mkOp; go_simp; all_goals (with_reducible rfl)) ?_
            simp only [Act.put, List.setIfInBounds_toArray, List.set_cons_zero, List.set_cons_succ]
            refine stp_fn 103 8 #[] #[] _ (awake2_any _) rfl rfl rfl rfl Try.func8 (by kernel_rfl) (by kernel_rfl) (by go_simp) ?_
            rintro e w103 ⟨rfl, b103⟩
            replace B := B.trans (Below.mono b103 B.size)
            refine ⟨_, rfl, b103, ?_⟩
            simp only [Act.put, List.setIfInBounds_toArray, List.set_cons_zero, List.set_cons_succ]
            refine lint_pure 104 (Op.pick (Operand.tmp 102) (Operand.tmp 103) (Operand.const (Value.bool false))) 4 _ rfl rfl rfl rfl rfl (fun w0 hb0 => by unfold mkOp; go_simp; all_goals (with_reducible rfl)) ?_
            simp only [Act.put, List.setIfInBounds_toArray, List.set_cons_zero, List.set_cons_succ]
            refine lint_pure 4 (Op.assign (Operand.tmp 104)) 4 _ rfl rfl rfl rfl rfl (fun w0 hb0 => by unfold mkOp; go_simp; all_goals (with_reducible rfl)) ?_
            simp only [Act.put, List.setIfInBounds_toArray, List.set_cons_zero, List.set_cons_succ]
            refine lint_end ?_
          rotate_left
          all_goals go_wp2
          all_goals go_ret
          all_goals exact ⟨rfl, B⟩
end Go.Proofs.Ytgfgnjlbghakfaa
