/- The document's own sums. -/
import Derived.Test.YtladojcbbhphfaaRefL4
import Derived.Test.YtladojcbbhphfaaRefL5
import Derived.Test.YtladojcbbhphfaaRefL6
import Derived.Test.YtladojcbbhphfaaRefL7
namespace Go.Proofs.Ytladojcbbhphfaa
open Go.RowKit Go.Deep

set_option maxHeartbeats 16000000 in
set_option maxRecDepth 100000 in
theorem ref256O_any (v : Value) (l : List UInt8) (w : World) (hv : Bs w v l) (hlen : l.length < 2 ^ 30) :
    Calls Try.prog 18 #[v] w fun e w' => ∃ v', e = .returned v' ∧ Owns w' w.heap.size v' (k256.sum l) ∧ Below w.heap.size w w' := by
  obtain ⟨a, n, cap, rfl, hn, hc1, hc2, hB0⟩ := hv.shape
  have HV := Lib.hid hB0
  have HN := Lib.hid hn
  have hn30 : n < 2 ^ 30 := by omega
  clear hv hB0 hn
  go_enter Try.func18, Try.ntmps18
  go_wp2_with (first
    | (go_at_call 27; refine (refRounds_any _).mono ?_; rintro e w1 ⟨rfl, hb1⟩
       have hR := rowIs_arr w1 80 (fun _ => .int .u64 0) 49
       have hb := hb1.alloc hb1.size (.cells (arrOf 80 fun _ => .int .u64 0) 49)
       have hsz1 := hb1.size
       clear hb1)
    | refine wpList_alloc_arr rfl 49 rfl (arrOf 80 fun _ => .int .u64 0) zero80 ?_
    | (refine wpList_store_arr rfl 49 (.tmp 3) (.tmp 23) rfl 80 arr80 hR rfl rfl (by omega) (fun _ _ => rfl) ?_; intro w2 hr2 hg2 hs2
       replace hb := hb.grown hg2 hb.size (by intro k hk; cases hk; exact hsz1)
       replace hR := hr2.congr (g := w64 K64) (fun i hi => by unfold putN; rw [if_pos (by omega)]; rfl)
       clear hr2 hg2 hs2)
    | (go_at_call 28; refine (refStart_any _).mono ?_; rintro e w3 ⟨rfl, hb3⟩
       have hlt1 := hR.lt
       replace hR := (hR.of_block (hb3.block _ hR.lt)).alloc (.cells (arrOf 8 fun _ => .int .u64 0) 51)
       replace hb := hb.trans (hb3.mono hb.size)
       have hsz3 := hb.size
       replace hb := hb.alloc hb.size (.cells (arrOf 8 fun _ => .int .u64 0) 51)
       have hF := rowIs_arr w3 8 (fun _ => .int .u64 0) 51
       have hne31 : w1.heap.size ≠ w3.heap.size := by have := hb3.size; omega
       clear hb3)
    | refine wpList_alloc_arr rfl 51 rfl (arrOf 8 fun _ => .int .u64 0) zero8_64 ?_
    | (refine wpList_store_arr rfl 51 (.tmp 4) (.tmp 24) rfl 8 arr8_64 hF rfl rfl (by omega) (fun _ _ => rfl) ?_; intro w4 hr4 hg4 hs4
       replace hR := hR.of_block (hg4.block _ hR.lt (fun e => hne31 (Option.some.inj e)))
       have hne41 : w4.heap.size ≠ w1.heap.size := by have := hR.lt; omega
       replace hR := hR.alloc (.cells (arrOf 8 fun _ => .int .u32 0) 54)
       replace hb := (hb.grown hg4 hb.size (by intro k hk; cases hk; exact hsz3))
       have hsz4 := hb.size
       replace hb := hb.alloc hb.size (.cells (arrOf 8 fun _ => .int .u32 0) 54)
       replace hF := (hr4.congr (g := w64 I64) (fun i hi => by unfold putN; rw [if_pos (by omega)]; rfl)).alloc (.cells (arrOf 8 fun _ => .int .u32 0) 54)
       have hH := rowIs_arr w4 8 (fun _ => .int .u32 0) 54
       have hne43 : w4.heap.size ≠ w3.heap.size := by rw [hs4, World.size_alloc]; omega
       clear hr4 hg4 hs4)
    | refine wpList_alloc_arr rfl 54 rfl (arrOf 8 fun _ => .int .u32 0) zero8_32 ?_)
  generalize w1.heap.size = rb at *
  generalize w3.heap.size = fb at *
  generalize w4.heap.size = hb' at *
  go_loopw [6] (fun i wr => ∃ j : Nat, j ≤ 8 ∧ i = .int .i64 j ∧ wr.rowIs hb' 54 8 (fun i => .int .u32 (if i < j then ((I32 i).toNat : Int) else 0)) ∧
    wr.rowIs fb 51 8 (w64 I64) ∧ wr.rowIs rb 49 80 (w64 K64) ∧ Below w.heap.size w wr) (fun i _ => 8 - (intOf i).toNat)
  case atStart => exact ⟨0, Nat.zero_le _, rfl, hH.congr fun i _ => rfl, hF, hR, hb⟩
  case round =>
    clear hH hF hR hb
    obtain ⟨j, hj, rfl, hH, hF, hR, hb⟩ := hrel
    by_cases hlt : j < 8
    · have hcell := hH.cell hlt
      have hfr := hH.frozen j
      have hf : wr.cell? ⟨fb, j, none⟩ = some (.int .u64 ((I64 j).toNat : Int)) := hF.cell hlt
      have hs : IntKind.u64.signed = false := rfl
      have hj8 : (j : Int) < 8 := by omega
      go_wp2
      go_roundw
      case rel =>
        refine ⟨j + 1, by omega, by go_num, (hH.set j _).congr fun i hi => ?_, hF.setOther (Ne.symm hne43) _, hR.setOther (Ne.symm hne41) _, hb.setCell hsz4 _⟩
        show (if i = j then _ else _) = _
        by_cases e : i = j
        · subst e
          rw [if_pos rfl, if_pos (by omega), I32_val]
          rfl
        · rw [if_neg e]
          by_cases h2 : i < j
          · rw [if_pos h2, if_pos (by omega)]
          · rw [if_neg h2, if_neg (by omega)]
      case measure => simp [intOf]; omega
    · obtain rfl : j = 8 := by omega
      replace hH : wr.rowIs hb' 54 8 (w32 k256.first.at) := hH.congr fun i hi => by
        rw [if_pos hi]
        show _ = Value.int .u32 (((S8.of I32).at i).toNat : Int)
        rw [S8.at_of _ _ hi]
      clear hF
      obtain ⟨w8, hw8⟩ : ∃ w8, w8 = wr := ⟨_, rfl⟩
      have hO := Owns.empty wr
      have hb8 : Below wr.heap.size wr (wr.alloc (.cells #[] 5)) := (Below.refl _ _).alloc (Nat.le_refl _) _
      have HB := Lib.hid ((HV.out.below hb (Nat.le_refl _)).below hb8 (Nat.le_refl _))
      go_wp2_with (first
        | (refine wpList_app rfl (.tmp 36) (.tmp 37) rfl wr.heap.size _ _ [] l hO HB.out rfl rfl (by simp; omega) (by simp) ?_; intro v5 w5 hO5 hg5
           have hb5 := hb8.grown hg5 (by simp) (Owns.block hO)
           have hB1 := Bs.one w5 128
           clear hO HB hg5)
        | (refine wpList_app rfl (.tmp 38) (.tmp 39) rfl wr.heap.size _ _ ([] ++ l) [128] (Owns.alloc hO5 _) hB1 rfl rfl (by simp; omega) (by have := hb5.size; simp; omega) ?_; intro v6 w6 hO6 hg6
           have hb6 := (hb5.alloc hb5.size (.cells #[.int .u8 ((128 : UInt8).toNat : Int)] 5)).grown hg6 (by have := hb5.size; simp; omega) (Owns.block hO5)
           clear hO5 hg6 hB1))
      have hR8 := hR
      have hH8 := hH
      have hbw8 := hb
      generalize hb8e : wr.heap.size = b8 at *
      have HN8 := Lib.hid hb8e
      clear hb8e hb8 hb5 hR hH hb
      have hbt : Below b8 wr w6 := hb6
      go_loopw [7] (fun m wq => ∃ z : Nat, z ≤ endRoom n 64 - 9 ∧ Owns wq b8 m ([] ++ l ++ [128] ++ List.replicate z 0) ∧ Below b8 wr wq) (fun m _ => n + 1 + (endRoom n 64 - 9) - lenOf m)
      case atStart => exact ⟨0, Nat.zero_le _, by simpa using hO6, hbt⟩
      case round =>
        clear hO6 hb6 hbt
        obtain ⟨z, hz, hO, hbq⟩ := hrel
        have hml : ([] ++ l ++ [128] ++ List.replicate z (0 : UInt8)).length = n + 1 + z := by simp; have := HN.out; omega
        obtain ⟨am, cm, hme⟩ := hO.shape
        rw [hml] at hme
        subst hme
        have hroom := room64 n z hz
        have hr2 := (endRoom_ge n 64 (by omega))
        have hB := Bs.one wr 0
        have hba := hbq.alloc (by have := hbq.size; have := HN8.out; omega) (.cells #[.int .u8 ((0 : UInt8).toNat : Int)] 5)
        have hsq : b8 ≤ wr.heap.size := by have := hbq.size; have := HN8.out; omega
        by_cases hzz : z = endRoom n 64 - 9
        · have hI : ((n : Int) + 1 + (z : Int)) % 64 = 56 := by
            have := hroom.2 hzz
            omega
          have HZ := Lib.hid hzz
          clear hzz hroom hB hba
          have hO1 := hO
          have hmn : IntKind.u64.wrap ((n : Int) * 8) = ((8 * n : Nat) : Int) := by rw [IntWalk.u64_in _ (by omega)]; omega
          go_wp2_with (first
            | (go_at_call 29; refine (refBig_any (8 * n) 8 _ (by omega) (by omega) (by omega)).mono ?_; rintro e w2 ⟨v2, rfl, hB2, hb2⟩
               have hO2 := hO1.below hb2
               have hbq2 := hbq.trans (hb2.mono hsq)
               have hsq2 := Nat.le_trans hsq hb2.size
               clear hb2)
            | (refine wpList_app rfl (.tmp 48) (.tmp 53) rfl b8 _ _ _ _ hO2 hB2 rfl rfl (by rw [hml, bigB_length]; omega) hsq2 ?_; intro v3 w3 hO3 hg3))
          have hbw : Below w.heap.size w w3 := (hbw8.trans (hbq2.mono (by have := HN8.out; have := hbw8.size; omega))).grown hg3 (by have := hbw8.size; have := HN8.out; omega) (fun r hr => by have := Owns.block hO2 r hr; have := hbw8.size; have := HN8.out; omega)
          have hb83 : Below b8 _ w3 := hbq2.grown hg3 hsq2 (Owns.block hO2)
          have hR3 := hR8.of_block (hb83.block rb (by have := hR8.lt; have := HN8.out; omega))
          have hH3 := hH8.of_block (hb83.block hb' (by have := hH8.lt; have := HN8.out; omega))
          have hM : [] ++ l ++ [128] ++ List.replicate z 0 ++ bigB (8 * n) 8 = k256.pad l := by
            have e1 := HZ.out
            have e2 := HN.out
            subst e2
            rw [e1]
            show _ = l ++ ([128] ++ List.replicate (endRoom l.length 64 - 9) 0 ++ bigB (8 * l.length) 8)
            simp
          rw [show ((8 : Int).toNat) = 8 from rfl, hM] at hO3
          obtain ⟨a3, c3, rfl⟩ := hO3.shape
          have hA3 : Away (.slice a3 (k256.pad l).length c3) hb' := hO3.away (by have := hH8.lt; have := HN8.out; omega)
          have hB3 := Lib.hid hO3.bs
          have hlt3 : hb' < w3.heap.size := hH3.lt
          have hTQ := pad_blocks k256 l (by decide) (.inl rfl)
          have hTmax : (k256.pad l).length < 2 ^ 31 := by
            show (l ++ endOf l.length 64).length < 2 ^ 31
            rw [List.length_append, endOf_length _ _ (by omega)]
            have := (endRoom_ge l.length 64 (by omega)).2
            have := HN.out
            omega
          generalize hMe : k256.pad l = M at *
          have HM := Lib.hid hMe
          clear hMe hO3 hg3 hO2 hB2 hbq2 hb83 hO1 hO hbq hR8 hH8 hbw8 hml hM HZ hI hz hmn
          obtain ⟨Q, hQ⟩ : ∃ Q, Q = M.length / k256.block := ⟨_, rfl⟩
          rw [← hQ] at hTQ
          replace hTQ : M.length = 64 * Q := hTQ
          generalize hTe : M.length = T at *
          have HT := Lib.hid hTe
          have HQ := Lib.hid hQ
          have HTQ := Lib.hid hTQ
          clear hTe hQ hTQ
          go_loopw [8] (fun p wq => ∃ (j q : Nat), j ≤ Q ∧ Hid (q = 64 * j) ∧ p = .int .i64 (q : Int) ∧ wq.rowIs hb' 54 8 (w32 (k256.state M j).at) ∧ w3.grownBy wq (some hb')) (fun p _ => T - (intOf p).toNat)
          case atStart => exact ⟨0, 0, Nat.zero_le _, rfl, rfl, hH3, grownBy_refl _ _⟩
          case round =>
            obtain ⟨j, q, hj, Hq, rfl, hH, hg⟩ := hrel
            have hqT : q ≤ T := by have := Hq.out; have := HTQ.out; omega
            by_cases hlt : j < Q
            · have hq64 : q + 64 ≤ T := by have := Hq.out; have := HTQ.out; omega
              have hqI : (q : Int) < (T : Int) := by omega
              have hW0 := rowIs_arr wr 64 (fun _ => .int .u32 0) 57
              have hgA := gb_alloc hg (.cells (arrOf 64 fun _ => .int .u32 0) 57)
              have hHA := hH.alloc (.cells (arrOf 64 fun _ => .int .u32 0) 57)
              have hwb : w3.heap.size ≤ wr.heap.size := hg.size
              have hwn : hb' ≠ wr.heap.size := by have := hH.lt; omega
              obtain ⟨W, hW⟩ : ∃ W, W = k256.sched (k256.word ((M.drop (64 * j)).take 64)) := ⟨_, rfl⟩
              have hW16 : ∀ t, t < 16 → W t = BitVec.ofNat 32 (numB ((M.drop (q + 4 * t)).take 4) 4) := fun t ht => by
                rw [hW, Kind.sched_low _ _ _ ht, numB_cut M q (4 * t) 4 64 (by omega), Hq.out]
                rfl
              have hWs : ∀ i, 16 ≤ i → W i = sig (W (i - 2)) 17 19 10 + W (i - 7) + sig (W (i - 15)) 7 18 3 + W (i - 16) := fun i hi => by
                rw [hW, Kind.sched_high _ _ _ hi]
                rfl
              have HWd := Lib.hid hW
              have HW16 := Lib.hid hW16
              have HWs := Lib.hid hWs
              clear hW hW16 hWs
              go_wp2_with (refine wpList_alloc_arr rfl 57 rfl (arrOf 64 fun _ => .int .u32 0) zeroR_32 ?_)
              clear hH hg
              generalize wr.heap.size = wb at *
              refine ref256_L4 w3 hb' wb T c3 q a3 M W (k256.state M j).at hTmax hq64 hB3 hA3 hwb hwn HW16 hW0 hHA hgA ?_
              intros
              rename_i w4 h4
              obtain ⟨hW4, hH4, hg4⟩ := h4
              clear hW0 hHA hgA
              go_wp2
              refine ref256_L5 w3 hb' wb W (k256.state M j).at hwb hwn HWs hW4 hH4 hg4 ?_
              intros
              rename_i w5 h5
              obtain ⟨hW5, hH5, hg5⟩ := h5
              clear hW4 hH4 hg4
              have hRq := gb_rowIs hR3 hg5 (Ne.symm hne41)
              have hV0 := rowIs_arr w5 8 (fun _ => .int .u32 0) 54
              have hHA := hH5.alloc (.cells (arrOf 8 fun _ => .int .u32 0) 54)
              have hWA := hW5.alloc (.cells (arrOf 8 fun _ => .int .u32 0) 54)
              have hRA := hRq.alloc (.cells (arrOf 8 fun _ => .int .u32 0) 54)
              have hgA := gb_alloc hg5 (.cells (arrOf 8 fun _ => .int .u32 0) 54)
              have hvb : w3.heap.size ≤ w5.heap.size := hg5.size
              have hvn : hb' ≠ w5.heap.size := by have := hH5.lt; omega
              have hvw : wb ≠ w5.heap.size := by have := hW5.lt; omega
              have hvr : rb ≠ w5.heap.size := by have := hRq.lt; omega
              obtain ⟨s0, hs0⟩ : ∃ s0, s0 = k256.state M j := ⟨_, rfl⟩
              rw [← hs0] at hH5 hHA
              have HS0 := Lib.hid hs0
              clear hs0
              go_wp2_with (first
                | (refine wpList_load_arr rfl 54 (.tmp 5) rfl 8 arr8_32 hH5 rfl (by omega) ?_; simp only [Nat.zero_add])
                | refine wpList_alloc_arr rfl 54 rfl (arrOf 8 fun _ => .int .u32 0) zero8_32 ?_
                | (refine wpList_store_arr rfl 54 (.tmp 14) (.tmp 133) rfl 8 arr8_32 hV0 rfl rfl (by omega) (fun _ _ => rfl) ?_; intro w6 hV6 hg6 hs6
                   replace hV6 := hV6.congr (g := w32 s0.at) (fun i hi => by unfold putN; rw [if_pos (by omega)]; rfl)
                   replace hHA := gb_rowIs hHA hg6 hvn
                   replace hWA := gb_rowIs hWA hg6 hvw
                   replace hRA := gb_rowIs hRA hg6 hvr
                   replace hgA := gb_row hgA hg6 hvb
                   clear hg6 hs6))
              clear hV0 hH5 hg5 hW5 hRq
              generalize w5.heap.size = vb at *
              refine ref256_L6 w3 rb hb' wb vb W s0 hvb hvn hvw hvr hV6 hWA hRA hHA hgA ?_
              intros
              rename_i w7 h7
              obtain ⟨hV7, hW7, hR7, hH7, hg7⟩ := h7
              clear hV6 hWA hRA hHA hgA
              go_wp2
              refine ref256_L7 w3 hb' vb s0 (k256.rnd W s0 64) hvn hV7 hH7 hg7 ?_
              intros
              rename_i w8 h8
              obtain ⟨hH8, hg8⟩ := h8
              clear hV7 hW7 hR7 hH7 hg7
              have hst : k256.state M (j + 1) = S8.add s0 (k256.rnd W s0 64) := by
                rw [HWd.out, HS0.out]
                rfl
              have HST := Lib.hid hst
              clear hst
              go_wp2
              go_roundw
              case rel => exact ⟨j + 1, q + 64, by omega, by have := Hq.out; show _ = _; omega, by go_num, by rw [HST.out]; exact hH8, hg8⟩
              case measure => simp [intOf]; omega
            · obtain rfl : j = Q := by omega
              have hqI : ¬ (q : Int) < (T : Int) := by have := Hq.out; have := HTQ.out; omega
              have hout : k256.out (k256.state M j) 8 = k256.sum l := by
                have e1 := HQ.out
                have e2 := HT.out
                rw [e1, ← e2, ← HM.out]
                rfl
              have HO := Lib.hid hout
              have hbf : Below w.heap.size w wr := gb_below hbw hg hbw.size (by omega)
              clear hout
              obtain ⟨s0, hs0⟩ : ∃ s0, s0 = k256.state M j := ⟨_, rfl⟩
              rw [← hs0] at hH HO
              clear hs0
              go_wp2
              go_loopw [21, 22] (fun out i wq => ∃ t : Nat, t ≤ 8 ∧ i = .int .i64 t ∧ Owns wq wr.heap.size out (k256.out s0 t) ∧ wq.rowIs hb' 54 8 (w32 s0.at) ∧ Below wr.heap.size wr wq) (fun _ i _ => 8 - (intOf i).toNat)
              case atStart => exact ⟨0, Nat.zero_le _, rfl, Owns.nil _ _, hH, Below.refl _ _⟩
              case round =>
                have hHl := hH.lt
                clear hH
                obtain ⟨t, ht, rfl, hown, hH, hbel⟩ := hrel
                by_cases hlt8 : t < 8
                · have hc : wr.cell? ⟨hb', t, none⟩ = some (.int .u32 ((s0.at t).toNat : Int)) := hH.cell hlt8
                  have hol : (k256.out s0 t).length = 4 * t := out_length k256 s0 4 rfl t
                  have hb8 : (t : Int) < 8 := by omega
                  have hcv : IntKind.u64.wrap ((s0.at t).toNat : Int) = ((s0.at t).toNat : Int) := IntWalk.u64_in _ ⟨by omega, by have := u32_lt (s0.at t); omega⟩
                  go_wp2_with (first
                    | (go_at_call 29; refine (refBig_any (s0.at t).toNat 4 _ (by have := u32_lt (s0.at t); omega) (by omega) (by omega)).mono ?_; rintro e w5 ⟨v5, rfl, hB5, hb5⟩
                       have hown5 := hown.below hb5
                       have hbel5 := hbel.trans (hb5.mono hbel.size)
                       have hH5 := hH.of_block (hb5.block _ hH.lt)
                       clear hb5)
                    | (refine wpList_app rfl (.tmp 235) (.tmp 240) rfl _ _ _ (k256.out s0 t) _ hown5 hB5 rfl rfl (by rw [hol, bigB_length]; omega) hbel5.size ?_; intro v6 w6 hown6 hgrow6))
                  have hbel6 := hbel5.grown hgrow6 hbel5.size (Owns.block hown5)
                  have hH6 : w6.rowIs hb' 54 8 (w32 s0.at) := hH5.of_block (hgrow6.block _ hH5.lt (fun e => by have := Owns.block hown5 hb' e.symm; omega))
                  clear hown5 hgrow6 hB5 hH5
                  go_wp2
                  go_roundw
                  case rel => exact ⟨t + 1, by omega, by go_num, hown6, hH6, hbel6⟩
                  case measure => simp [intOf]; omega
                · obtain rfl : t = 8 := by omega
                  go_wp2
                  go_ret
                  exact ⟨_, rfl, by rw [← HO.out]; exact hown.lower hbf.size, hbf.trans (hbel.mono hbf.size)⟩
        · have hI : ¬ ((n : Int) + 1 + (z : Int)) % 64 = 56 := by
            intro h
            exact hzz (hroom.1 (by omega))
          clear hroom
          go_wp2_with (refine wpList_app rfl (.tmp 45) (.tmp 46) rfl b8 _ _ _ [0] (hO.alloc _) hB rfl rfl (by rw [hml]; simp; omega) (by simp; omega) ?_; intro v3 w3 hO3 hg3)
          have hb3 : Below b8 _ w3 := hba.grown hg3 (by simp; omega) (Owns.block hO)
          go_roundw
          case rel =>
            refine ⟨z + 1, by omega, ?_, hb3⟩
            rw [List.replicate_succ', ← List.append_assoc]
            exact hO3
          case measure =>
            obtain ⟨a3, c3, rfl⟩ := hO3.shape
            simp [lenOf]
            have := HN.out
            omega
theorem ref256_any (v : Value) (l : List UInt8) (w : World) (hv : Bs w v l) (hlen : l.length < 2 ^ 30) :
    Calls Try.prog 18 #[v] w fun e w' => ∃ v', e = .returned v' ∧ Bs w' v' (k256.sum l) ∧ Below w.heap.size w w' :=
  (ref256O_any v l w hv hlen).mono fun e w' ⟨v', h1, h2, h3⟩ => ⟨v', h1, h2.bs, h3⟩
end Go.Proofs.Ytladojcbbhphfaa
