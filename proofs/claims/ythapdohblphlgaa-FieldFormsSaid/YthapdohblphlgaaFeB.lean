/- The document's numbers below p: carried. -/
import Derived.Test.YthapdohblphlgaaFeA
namespace Go.Proofs.Ythapdohblphlgaa
open Go.RowKit Go.Deep

theorem mask64 (x k : Nat) (hx : x < 2 ^ 64) (hk : k < 64) (m : Int) (hm : m = ((2 ^ k - 1 : Nat) : Int)) : bits .and .u64 (x : Int) m = ((x % 2 ^ k : Nat) : Int) := by
  subst hm
  have hy : 2 ^ k - 1 < 2 ^ 64 := by
    have := Nat.pow_lt_pow_right (show 1 < 2 by decide) hk
    omega
  have h := and64 (BitVec.ofNat 64 x) (BitVec.ofNat 64 (2 ^ k - 1))
  rw [ofNat64 x hx, ofNat64 _ hy] at h
  rw [h, BitVec.toNat_and, BitVec.toNat_ofNat, BitVec.toNat_ofNat, Nat.mod_eq_of_lt hx, Nat.mod_eq_of_lt hy, Nat.and_two_pow_sub_one_eq_mod]

/-- Was it laid already? -/
def unM : Value → Nat
  | .pointer _ => 0
  | _ => 1
/-- The parts behind so many passes. -/
def fAt (f : Nat → Nat) : Nat → Nat → Nat
  | 0 => f
  | k + 1 => passF (valL (fAt f k) 16)
theorem fAt_val (f : Nat → Nat) (k : Nat) : valL (fAt f (k + 1)) 16 = passV (valL (fAt f k) 16) := valL_passF _
theorem passF_lt (V : Nat) (h : V < 2 ^ 46 * top) (j : Nat) : passF V j < 2 ^ 52 := by
  have h1 : V / top < 2 ^ 46 := by rw [Nat.div_lt_iff_lt_mul top_pos]; exact h
  have h2 := dig_lt V 0
  have h3 := dig_lt V j
  have h4 := dig_lt V 15
  unfold passF
  (repeat' split) <;> omega
theorem passV_lt (V : Nat) (h : V < 2 ^ 46 * top) : passV V < 2 ^ 46 * top := by
  have h1 := (thrice_lt V h).1
  have h2 : top + 19 * 2 ^ 46 < 2 ^ 46 * top := by decide +kernel
  exact Nat.lt_trans h1 h2
theorem fAt_lt (f : Nat → Nat) (hf : ∀ j, f j < 2 ^ 44) : ∀ k, valL (fAt f k) 16 < 2 ^ 46 * top ∧ ∀ j, fAt f k j < 2 ^ 52
  | 0 => by
    refine ⟨?_, fun j => Nat.lt_trans (hf j) (by decide)⟩
    have h := valL_lt f (2 ^ 44 - 1) (fun j => by have := hf j; omega) 16
    have e : (2 ^ 44 - 1 + 1) * 65536 ^ 16 ≤ 2 ^ 46 * top := by decide +kernel
    exact Nat.lt_of_lt_of_le h e
  | k + 1 => by
    have ih := (fAt_lt f hf k).1
    refine ⟨?_, fun j => passF_lt _ ih j⟩
    rw [fAt_val]
    exact passV_lt _ ih

set_option maxHeartbeats 4000000 in
theorem refCarried_any (f : Nat → Nat) (w : World) (hf : ∀ j, f j < 2 ^ 44) : Calls Try.prog 39 #[.agg (arrOf 16 (u64f f))] w fun e w' => e = .returned (.agg (arrOf 16 (feF (valL f 16 % p25)))) ∧ Below w.heap.size w w' := by
  have hA0 := rowIs_arr w 16 (u64f f) 31
  have hA1 := hA0.alloc (.cells (arrOf 16 (u64f fun _ => 0)) 31)
  have hR1 := rowIs_arr (w.alloc (.cells (arrOf 16 (u64f f)) 31)) 16 (u64f fun _ => 0) 31
  have hb1 : Below w.heap.size w ((w.alloc (.cells (arrOf 16 (u64f f)) 31)).alloc (.cells (arrOf 16 (u64f fun _ => 0)) 31)) := ((Below.refl _ _).alloc (Nat.le_refl _) _).alloc (by simp) _
  rw [World.size_alloc] at hR1
  have HF := Lib.hid hf
  clear hA0 hf
  go_enter Try.func39, Try.ntmps39
  go_wp2_with (refine wpList_alloc_arr rfl 31 rfl (arrOf 16 (u64f fun _ => 0)) zeroFe ?_)
  generalize hga : w.heap.size = ga at *
  generalize hgr : ga + 1 = gr at *
  have hgar : ga ≤ gr := by omega
  have hne : gr ≠ ga := by omega
  have hne' : ga ≠ gr := by omega
  have HGA := Lib.hid hga
  have HGR := Lib.hid hgr
  clear hga hgr
  generalize ((w.alloc (.cells (arrOf 16 (u64f f)) 31)).alloc (.cells (arrOf 16 (u64f fun _ => 0)) 31)) = w1 at *
  go_loopw [3, 4, 5, 6] (fun ik _ _ _ wr => ∃ k : Nat, k ≤ 3 ∧ ik = .int .i64 k ∧ wr.rowIs ga 31 16 (u64f (fAt f k)) ∧ wr.rowIs gr 31 16 (u64f fun _ => 0) ∧ Below ga w wr) (fun ik _ _ _ _ => 3 - (intOf ik).toNat)
  case atStart => exact ⟨0, Nat.zero_le _, rfl, hA1, hR1, hb1⟩
  case round =>
    clear hA1 hR1 hb1
    obtain ⟨k, hk, rfl, hA, hR, hB⟩ := hrel
    by_cases hlt : k < 3
    · have hV := (fAt_lt f HF.out k).1
      have hG := (fAt_lt f HF.out k).2
      have hval := fAt_val f k
      have hnext : fAt f (k + 1) = passF (valL (fAt f k) 16) := rfl
      have HNX := Lib.hid hnext
      generalize fAt f k = g at *
      obtain ⟨V, hVe⟩ : ∃ V, V = valL g 16 := ⟨_, rfl⟩
      rw [← hVe] at hV
      have HVE := Lib.hid hVe
      have HV := Lib.hid hV
      have HG := Lib.hid hG
      have hkI : (k : Int) < 3 := by omega
      clear hval hnext hVe hV hG
      go_wp2
      go_loopw [4, 5, 6] (fun ic ii _ wq => ∃ j : Nat, j ≤ 16 ∧ ii = .int .i64 j ∧ ic = .int .u64 ((valL g j / 65536 ^ j : Nat) : Int) ∧ wq.rowIs ga 31 16 (u64f fun i => if i < j then dig V i else g i) ∧ wq.rowIs gr 31 16 (u64f fun _ => 0) ∧ Below ga w wq) (fun _ ii _ _ => 16 - (intOf ii).toNat)
      case atStart => exact ⟨0, Nat.zero_le _, rfl, by simp [valL], hA.congr fun i _ => rfl, hR, hB⟩
      case round =>
        clear hA hR hB
        obtain ⟨j, hj, rfl, rfl, hA, hR, hB⟩ := hrel
        by_cases hlt16 : j < 16
        · have hcar := carry_le g (2 ^ 52 - 1) (fun j => by have := HG.out j; omega) j
          have hgj := HG.out j
          have hstep := carry_step g j
          have hdig := dig_valL g j 16 hlt16
          rw [← HVE.out] at hdig
          have hc : wr.cell? ⟨ga, j, none⟩ = some (.int .u64 ((g j : Nat) : Int)) := by
            have h := hA.cell hlt16
            dsimp only [u64f] at h
            rwa [if_neg (Nat.lt_irrefl j)] at h
          have hfr := hA.frozen j
          have hjI : (j : Int) < 16 := by omega
          generalize valL g j / 65536 ^ j = c at *
          have hw : IntKind.u64.wrap (((g j : Nat) : Int) + (c : Int)) = ((g j + c : Nat) : Int) := by rw [IntWalk.u64_in _ ⟨by omega, by omega⟩]; omega
          have hm : bits .and .u64 ((g j + c : Nat) : Int) 65535 = ((dig V j : Nat) : Int) := by
            rw [mask64 (g j + c) 16 (by omega) (by decide) 65535 rfl, hdig]
          have HS := Lib.hid hstep
          obtain ⟨z, hz⟩ : ∃ z, z = (g j + c) / 65536 := ⟨_, rfl⟩
          have hsh : ((g j + c : Nat) : Int) / 65536 = (z : Int) := by omega
          have HZ := Lib.hid hz
          generalize hx : g j + c = x at *
          generalize hgx : g j = y at *
          have HD := Lib.hid hdig
          clear hstep hdig hcar hgj hx hgx hz
          go_wp2
          go_roundw
          case rel => exact ⟨j + 1, by omega, by go_num, by rw [HS.out, HZ.out], row_set hA j _ _ (fun i hi => by (repeat' split) <;> first | omega | (subst_vars; rfl)), hR.setOther hne _, hB.setCell (Nat.le_refl _) _⟩
          case measure => simp [intOf]; omega
        · obtain rfl : j = 16 := by omega
          have hA' : wr.rowIs ga 31 16 (u64f (dig V)) := hA.congr fun i hi => by dsimp only [u64f]; rw [if_pos hi]
          clear hA
          have hc0 : wr.cell? ⟨ga, 0, none⟩ = some (.int .u64 ((dig V 0 : Nat) : Int)) := hA'.cell (i := 0) (by omega)
          have hc15 : wr.cell? ⟨ga, 15, none⟩ = some (.int .u64 ((dig V 15 : Nat) : Int)) := hA'.cell (i := 15) (by omega)
          have hf0 := hA'.frozen 0
          have hf15 := hA'.frozen 15
          have hcV : V / 65536 ^ 16 < 2 ^ 46 := by
            rw [B16, Nat.div_lt_iff_lt_mul (Nat.mul_pos (by decide) top_pos)]
            refine Nat.lt_of_lt_of_le HV.out (Nat.mul_le_mul_left _ ?_)
            exact Nat.le_mul_of_pos_left _ (by decide)
          have hpt := pass_top V
          have hl0 := dig_lt V 0
          have hl15 := dig_lt V 15
          have hP0 : passF V 0 = dig V 0 + 19 * (V / top) := rfl
          have hP15 : passF V 15 = dig V 15 % 32768 := rfl
          have hPi : ∀ i, i ≠ 0 → i ≠ 15 → passF V i = dig V i := fun i h1 h2 => by unfold passF; rw [if_neg h1, if_neg h2]
          rw [← hpt] at hP0
          rw [← HVE.out]
          have HPI := Lib.hid hPi
          have HNX2 : Hid (fAt f (k + 1) = passF V) := Lib.hid (by rw [HNX.out, ← HVE.out])
          clear hpt hPi
          generalize V / 65536 ^ 16 = c at *
          generalize hd0 : dig V 0 = d0 at *
          generalize hd15 : dig V 15 = d15 at *
          have h38 : IntKind.u64.wrap (38 * (c : Int)) = ((38 * c : Nat) : Int) := by rw [IntWalk.u64_in _ ⟨by omega, by omega⟩]; omega
          obtain ⟨h, hh⟩ : ∃ h, h = d15 / 32768 := ⟨_, rfl⟩
          have hsh : (d15 : Int) / 32768 = (h : Int) := by omega
          have h19 : IntKind.u64.wrap (19 * (h : Int)) = ((19 * h : Nat) : Int) := by rw [IntWalk.u64_in _ ⟨by omega, by omega⟩]; omega
          have hs1 : IntKind.u64.wrap ((d0 : Int) + ((38 * c : Nat) : Int)) = ((d0 + 38 * c : Nat) : Int) := by rw [IntWalk.u64_in _ ⟨by omega, by omega⟩]; omega
          have hs2 : IntKind.u64.wrap (((d0 + 38 * c : Nat) : Int) + ((19 * h : Nat) : Int)) = ((d0 + 38 * c + 19 * h : Nat) : Int) := by rw [IntWalk.u64_in _ ⟨by omega, by omega⟩]; omega
          have hm : bits .and .u64 (d15 : Int) 32767 = ((d15 % 32768 : Nat) : Int) := mask64 d15 15 (by omega) (by decide) 32767 rfl
          have hT0 : passF V 0 = d0 + 38 * c + 19 * h := by rw [hP0]; omega
          generalize 38 * c = c38 at *
          generalize 19 * h = h2 at *
          generalize hs2e : d0 + c38 + h2 = s2 at *
          generalize d0 + c38 = s1 at *
          generalize hme : d15 % 32768 = m15 at *
          have HT0 := Lib.hid hT0
          have HP15 := Lib.hid hP15
          clear hP0 hP15 hT0 hh hcV hl0 hl15 hs2e hme hd0 hd15 hlt16
          go_wp2
          go_roundw
          case rel =>
            refine ⟨k + 1, by omega, by go_num, ?_, (hR.setOther hne _).setOther hne _, (hB.setCell (Nat.le_refl _) _).setCell (Nat.le_refl _) _⟩
            rw [HNX2.out]
            refine row_set (row_set hA' 0 s2 (fun i => if i = 0 then s2 else dig V i) (fun i hi => rfl)) 15 m15 (passF V) (fun i hi => ?_)
            by_cases e15 : i = 15
            · subst e15; rw [if_pos rfl]; exact HP15.out
            · rw [if_neg e15]
              by_cases e0 : i = 0
              · subst e0; rw [if_pos rfl]; exact HT0.out
              · rw [if_neg e0]; exact HPI.out i e0 e15
          case measure => simp [intOf]; omega
    · obtain rfl : k = 3 := by omega
      obtain ⟨V2, hV2⟩ : ∃ V2, V2 = thrice (valL f 16) := ⟨_, rfl⟩
      have hlow : V2 < top := by rw [hV2]; exact (thrice_lt _ (fAt_lt f HF.out 0).1).2
      have hmod : V2 % p25 = valL f 16 % p25 := by
        rw [hV2]
        unfold thrice
        rw [passV_mod, passV_mod]
      have hrow : ∀ i, i < 16 → fAt f 3 i = dig V2 i := fun i hi => by
        have e : fAt f 3 i = passF V2 i := by
          show passF (valL (fAt f 2) 16) i = _
          rw [fAt_val, fAt_val, hV2]
          rfl
        rw [e]
        exact (pass_low V2 hlow).2 i hi
      have hA2 : wr.rowIs ga 31 16 (feF V2) := hA.congr fun i hi => by unfold feF u64f; rw [hrow i hi]
      have HMOD := Lib.hid hmod
      have HLOW := Lib.hid hlow
      clear hA hV2 hlow hmod hrow
      rw [show ((3 : Nat) : Int) = 3 from rfl]
      have HGS : Hid (∀ wq : World, Below ga w wq → ga ≤ wq.heap.size) := Lib.hid fun wq h => by rw [← HGA.out]; exact h.size
      go_wp2
      go_loopw [7, 8, 9, 10] (fun s7 _ _ _ wq => ∃ V, Hid (V % p25 = valL f 16 % p25) ∧ Hid (V < top) ∧ (s7 = undef ∨ V < p25) ∧ wq.rowIs ga 31 16 (feF V) ∧ wq.rowIs gr 31 16 (u64f fun _ => 0) ∧ Below ga w wq) (fun s7 _ _ _ _ => unM s7)
      case atStart => exact ⟨V2, HMOD, HLOW, .inl rfl, hA2, hR, hB⟩
      case round =>
        clear hA2 hR hB HMOD HLOW
        obtain ⟨V, HMOD, HLOW, h7, hA, hR, hB⟩ := hrel
        have hVB : V < 65536 ^ 16 := by
          have := HLOW.out
          rw [B16]
          exact Nat.lt_of_lt_of_le this (Nat.le_mul_of_pos_left _ (by decide))
        have HVB := Lib.hid hVB
        clear hVB
        by_cases hlt : V < p25
        · have hd : decide (V < p25) = true := decide_eq_true hlt
          have hval : V % p25 = V := Nat.mod_eq_of_lt hlt
          have HVAL := Lib.hid hval
          clear hval
          go_wp2_with (first
            | (refine wpList_load_arr rfl 31 (.tmp 1) rfl 16 arrFe hA rfl (by omega) ?_; simp only [Nat.zero_add])
            | (go_at_call 50; refine (refLeast_any V _ HVB.out).mono ?_; rintro e w5 ⟨rfl, hb5⟩; rw [hd]
               have hA5 := hA.of_block (hb5.block _ hA.lt)
               have hR5 := hR.of_block (hb5.block _ hR.lt)
               have hB5 := hB.trans (hb5.mono (HGS.out _ hB))
               clear hA hR hb5)
            | (refine wpList_load_arr rfl 31 (.tmp 1) rfl 16 arrFe hA5 rfl (by omega) ?_; simp only [Nat.zero_add])
            | (refine wpList_store_arr rfl 31 (.tmp 2) (.tmp 70) rfl 16 arrFe hR5 rfl rfl (by omega) (fun _ _ => rfl) ?_; intro w6 hr6 hg6 hs6))
          refine ret_cell_arr rfl arrFe hr6 rfl (by omega) rfl ⟨?_, ?_⟩
          · rw [← HMOD.out, HVAL.out]
            refine congrArg (fun c => Ending.returned (Value.agg c)) (arrOf_congr fun i hi => ?_)
            unfold putN
            rw [if_pos (by omega)]
            simp only [Nat.zero_add, Nat.sub_zero]
          · rw [HGA.out]
            exact hB5.grown hg6 (HGS.out _ hB5) (by intro k hk; cases hk; exact hgar)
        · have h7e : undef = undef ∧ V ≥ p25 := ⟨rfl, by omega⟩
          rcases h7 with rfl | h7
          rotate_left
          · exact absurd h7 hlt
          have hd : decide (V < p25) = false := decide_eq_false hlt
          have hA0 := hA
          clear h7e
          go_wp2_with (first
            | (refine wpList_load_arr rfl 31 (.tmp 1) rfl 16 arrFe hA rfl (by omega) ?_; simp only [Nat.zero_add])
            | (go_at_call 50; refine (refLeast_any V _ HVB.out).mono ?_; rintro e w5 ⟨rfl, hb5⟩; rw [hd]
               have hA5 := hA.of_block (hb5.block _ hA.lt)
               have hR5 := hR.of_block (hb5.block _ hR.lt)
               have hB5 := hB.trans (hb5.mono (HGS.out _ hB))
               clear hA hR hb5 hA0)
            | (go_at_call 43; refine (refPrime_any _).mono ?_; rintro e w6 ⟨rfl, hb6⟩
               have hA6 := (hA5.of_block (hb6.block _ hA5.lt)).alloc (.cells (arrOf 16 (u64f fun _ => 0)) 31)
               have hR6 := (hR5.of_block (hb6.block _ hR5.lt)).alloc (.cells (arrOf 16 (u64f fun _ => 0)) 31)
               have hP6 := rowIs_arr w6 16 (u64f fun _ => 0) 31
               have hs5 := hb6.size
               have hltA := hA5.lt
               have hltR := hR5.lt
               have hB6 := hB5.trans (hb6.mono (HGS.out _ hB5))
               have hsB := HGS.out _ hB6
               replace hB6 := hB6.alloc hsB (.cells (arrOf 16 (u64f fun _ => 0)) 31)
               clear hA5 hR5 hB5 hb6)
            | refine wpList_alloc_arr rfl 31 rfl (arrOf 16 (u64f fun _ => 0)) zeroFe ?_
            | (refine wpList_store_arr rfl 31 (.tmp 7) (.tmp 48) rfl 16 arrFe hP6 rfl rfl (by omega) (fun _ _ => rfl) ?_; intro w7 hr7 hg7 hs7))
          have hgp : ga < w6.heap.size ∧ gr < w6.heap.size := ⟨by omega, by omega⟩
          have hA7 : w7.rowIs ga 31 16 (feF V) := hA6.of_block (hg7.block _ hA6.lt (fun e => by have := Option.some.inj e; omega))
          have hR7 : w7.rowIs gr 31 16 (u64f fun _ => 0) := hR6.of_block (hg7.block _ hR6.lt (fun e => by have := Option.some.inj e; omega))
          have hP7 : w7.rowIs w6.heap.size 31 16 (feF p25) := hr7.congr fun i hi => by unfold putN; rw [if_pos (by omega), Nat.sub_zero]
          have hB7 : Below ga w w7 := hB6.grown hg7 (HGS.out _ hB6) (by intro k hk; cases hk; omega)
          clear hA6 hR6 hP6 hr7 hg7 hs7 hB6 hs5 hltA hltR hsB
          generalize w6.heap.size = gp at *
          have hpa : gp ≠ ga := by omega
          have hpr : gp ≠ gr := by omega
          obtain ⟨D, hD⟩ : ∃ D, V = D + p25 := ⟨V - p25, by omega⟩
          have hDp : D < p25 := by
            have h1 := HLOW.out
            have h2 := top_p
            have h3 : 19 < p25 := by decide +kernel
            generalize top = T at *
            generalize p25 = P at *
            omega
          have hDm : D % p25 = valL f 16 % p25 := by
            rw [← HMOD.out, hD, Nat.add_mod_right]
          have HD := Lib.hid hD
          have HDP := Lib.hid hDp
          have HDM := Lib.hid hDm
          clear hDp hDm hD hlt hd
          go_loopw [8, 9, 10] (fun ib ii _ wq => ∃ j : Nat, j ≤ 16 ∧ ii = .int .i64 j ∧ ib = .int .u64 ((addC D p25 j : Nat) : Int) ∧ wq.rowIs ga 31 16 (u64f fun i => if i < j then dig D i else dig V i) ∧ wq.rowIs gp 31 16 (feF p25) ∧ wq.rowIs gr 31 16 (u64f fun _ => 0) ∧ Below ga w wq) (fun _ ii _ _ => 16 - (intOf ii).toNat)
          case atStart => exact ⟨0, Nat.zero_le _, rfl, by rw [addC_zero]; rfl, hA7.congr fun i _ => rfl, hP7, hR7, hB7⟩
          case round =>
            clear hA7 hP7 hR7 hB7
            obtain ⟨j, hj, rfl, rfl, hA, hP, hR, hB⟩ := hrel
            by_cases hlt16 : j < 16
            · have hadd := add_dig D p25 j
              rw [← HD.out] at hadd
              have hb0 := addC_le D p25 j
              have hb1 := addC_le D p25 (j + 1)
              have hc : wr.cell? ⟨ga, j, none⟩ = some (.int .u64 ((dig V j : Nat) : Int)) := by
                have h := hA.cell hlt16
                dsimp only [u64f] at h
                rwa [if_neg (Nat.lt_irrefl j)] at h
              have hcp : wr.cell? ⟨gp, j, none⟩ = some (.int .u64 ((dig p25 j : Nat) : Int)) := hP.cell hlt16
              have hfr := hA.frozen j
              have hjI : 0 ≤ (j : Int) ∧ (j : Int) < 16 := by omega
              have hlV := dig_lt V j
              have hlP := dig_lt p25 j
              have hlD := dig_lt D j
              have hset : ∀ v, v = dig D j → (wr.setCell ⟨ga, j, none⟩ (.int .u64 ((v : Nat) : Int))).rowIs ga 31 16 (u64f fun i => if i < j + 1 then dig D i else dig V i) := fun v hv => row_set hA j v _ (fun i hi => by
                by_cases e : i = j
                · subst e; rw [if_pos (Nat.lt_succ_self i), if_pos rfl]; exact hv.symm
                · rw [if_neg e]
                  by_cases h2 : i < j
                  · rw [if_pos h2, if_pos (by omega)]
                  · rw [if_neg h2, if_neg (by omega)])
              have HSET := Lib.hid hset
              obtain ⟨b', hb'⟩ : ∃ b', b' = addC D p25 (j + 1) := ⟨_, rfl⟩
              rw [← hb'] at hadd hb1
              have HB' := Lib.hid hb'
              generalize addC D p25 j = b at *
              generalize dig V j = x at *
              generalize dig p25 j = pj at *
              generalize hde : dig D j = d at *
              have HDE := Lib.hid hde
              have w1 : IntKind.u64.wrap ((x : Int) + 65536) = ((x + 65536 : Nat) : Int) := by rw [IntWalk.u64_in _ ⟨by omega, by omega⟩]; omega
              have w2 : IntKind.u64.wrap (((x + 65536 : Nat) : Int) - (pj : Int)) = ((x + 65536 - pj : Nat) : Int) := by rw [IntWalk.u64_in _ ⟨by omega, by omega⟩]; omega
              have w3 : IntKind.u64.wrap (((x + 65536 - pj : Nat) : Int) - (b : Int)) = ((x + 65536 - pj - b : Nat) : Int) := by rw [IntWalk.u64_in _ ⟨by omega, by omega⟩]; omega
              have hm : bits .and .u64 ((x + 65536 - pj - b : Nat) : Int) 65535 = (d : Int) := by
                rw [mask64 (x + 65536 - pj - b) 16 (by omega) (by decide) 65535 rfl]
                have : (x + 65536 - pj - b) % 2 ^ 16 = d := by omega
                rw [this]
              have hsh : ((x + 65536 - pj - b : Nat) : Int) / 65536 = ((1 - b' : Nat) : Int) := by omega
              have w4 : IntKind.u64.wrap (1 - ((1 - b' : Nat) : Int)) = (b' : Int) := by rw [IntWalk.u64_in _ ⟨by omega, by omega⟩]; omega
              generalize x + 65536 - pj - b = v3 at *
              generalize x + 65536 - pj = v2 at *
              generalize x + 65536 = v1 at *
              generalize 1 - b' = nb at *
              clear hadd hb0 hb1 hlV hlP hlD hb' hde hset hlt16
              go_wp2
              go_region
              go_wp2
              go_roundw
              case rel => exact ⟨j + 1, by omega, by go_num, by rw [HB'.out], HSET.out d rfl, hP.drew.setOther hpa _, hR.drew.setOther hne _, hB.drew.setCell (Nat.le_refl _) _⟩
              case measure => simp [intOf]; omega
            · obtain rfl : j = 16 := by omega
              have hA' : wr.rowIs ga 31 16 (feF D) := hA.congr fun i hi => by dsimp only [u64f]; rw [if_pos hi]; rfl
              clear hA
              go_wp2
              go_roundw
              case rel => exact ⟨D, HDM, Lib.hid (Nat.lt_trans HDP.out (by decide +kernel)), .inr HDP.out, hA', hR, hB⟩
              case measure => exact Nat.zero_lt_one
end Go.Proofs.Ythapdohblphlgaa
