/- The document's numbers below p: power, Pow. -/
import Derived.Test.YthapdohblphlgaaFeF
namespace Go.Proofs.Ythapdohblphlgaa
open Go.RowKit Go.Deep

theorem getD_at (l : List UInt8) (i : Nat) (h : i < l.length) : l.getD i 0 = l[i] := by
  rw [List.getD_eq_getElem?_getD, List.getElem?_eq_getElem h]; rfl
theorem mod_p_lt (x : Nat) : x % p25 < p25 := Nat.mod_lt _ p25_pos
theorem pow_two_mod (A x : Nat) : A ^ x % p25 * (A ^ x % p25) % p25 = A ^ (2 * x) % p25 := by rw [← Nat.mul_mod, ← Nat.pow_add, Nat.two_mul]
theorem pow_one_mod (A x : Nat) : A ^ x % p25 * A % p25 = A ^ (x + 1) % p25 := by rw [Nat.mod_mul_mod, ← Nat.pow_succ]
/-- The number of bytes, the greatest first: so many of them. -/
def expB (E : List UInt8) : Nat → Nat
  | 0 => 0
  | i + 1 => expB E i * 256 + (E.getD i 0).toNat
theorem expB_start (E : List UInt8) (i : Nat) : expB E i * 2 ^ (8 - 8) + (E.getD i 0).toNat / 2 ^ 8 = expB E i := by
  have := UInt8.toNat_lt (E.getD i 0)
  omega
theorem expB_end (E : List UInt8) (i : Nat) : expB E i * 2 ^ (8 - 0) + (E.getD i 0).toNat / 2 ^ 0 = expB E (i + 1) := by
  rw [expB, Nat.pow_zero, Nat.div_one]
theorem expB_step (b x k : Nat) (hk : k < 8) : b * 2 ^ (8 - k) + x / 2 ^ k = 2 * (b * 2 ^ (8 - (k + 1)) + x / 2 ^ (k + 1)) + x / 2 ^ k % 2 := by
  have e1 : 2 ^ (8 - k) = 2 ^ (8 - (k + 1)) * 2 := by rw [← Nat.pow_succ]; congr 1; omega
  have e2 : x / 2 ^ (k + 1) = x / 2 ^ k / 2 := by rw [Nat.pow_succ, Nat.div_div_eq_div_mul]
  rw [e1, e2, ← Nat.mul_assoc]
  omega
theorem bit_u8 (x : Nat) (hx : x < 256) : bits .and .u8 (x : Int) 1 = ((x % 2 : Nat) : Int) := by
  show IntKind.u8.wrap (((BitVec.ofInt 8 (x : Int)) &&& (BitVec.ofInt 8 1)).toNat : Int) = _
  have e1 : (BitVec.ofInt 8 (x : Int)).toNat = x := by
    simp
    omega
  rw [BitVec.toNat_and, e1, show (BitVec.ofInt 8 1).toNat = 2 ^ 1 - 1 from rfl, Nat.and_two_pow_sub_one_eq_mod, IntWalk.u8_in _ ⟨by omega, by omega⟩]

def powL (a b : UInt8) : List UInt8 := a :: (List.replicate 30 255 ++ [b])
theorem powL_get (a b : UInt8) (i : Nat) (h : i < 32) : (powL a b).getD i 0 = if i = 31 then b else if i = 0 then a else 255 := by
  unfold powL
  cases i with
  | zero => rfl
  | succ j =>
    rw [List.getD_cons_succ, List.getD_eq_getElem?_getD, List.getElem?_append, List.length_replicate]
    by_cases hj : j < 30
    · rw [if_pos hj, if_neg (by omega), if_neg (by omega), List.getElem?_replicate, if_pos hj]
      rfl
    · rw [if_neg hj, if_pos (by omega), show j - 30 = 0 by omega]
      rfl
theorem powL_length (a b : UInt8) : (powL a b).length = 32 := rfl

set_option maxHeartbeats 1000000 in
theorem refPower_any (a b : UInt8) (w : World) : Calls Try.prog 48 #[.int .u8 (a.toNat : Int), .int .u8 (b.toNat : Int)] w fun e w' => ∃ v, e = .returned v ∧ Bs w' v (powL a b) ∧ Below w.heap.size w w' := by
  have hmk : ∀ w : World, (Instr.makeSlice 22 (.int .i64 32) (.int .i64 32)).run Try.prog w = .ok (.slice (some ⟨w.heap.size, 0, none⟩) 32 32) (w.alloc (.cells (madeCells #[.int .u8 0] 32) 5)) :=
    fun w => run_make_row' (P := Try.prog) 22 5 (.int .u8 0) 1 Try.underlying22 Try.info5 rfl .i64 .i64 32 (by omega) (by omega) w
  have hmade := World.rowIs_made w (.int .u8 0) 32 5
  have hb1 : Below w.heap.size w (w.alloc (.cells (madeCells #[.int .u8 0] 32) 5)) := (Below.refl _ _).alloc (Nat.le_refl _) _
  go_enter Try.func48, Try.ntmps48
  go_wp2
  go_loopw [6] (fun i wr => ∃ j : Nat, j ≤ 32 ∧ i = .int .i64 j ∧ wr.rowIs w.heap.size 5 32 (fun i => if i < j then .int .u8 255 else .int .u8 0) ∧ Below w.heap.size w wr) (fun i _ => 32 - (intOf i).toNat)
  case atStart => exact ⟨0, Nat.zero_le _, rfl, hmade.congr fun i _ => rfl, hb1⟩
  case round =>
    clear hmade hb1 hmk
    obtain ⟨j, hj, rfl, hrow, hbel⟩ := hrel
    by_cases hlt : j < 32
    · have hcell := hrow.cell hlt
      have hfr := hrow.frozen j
      have hjI : 0 ≤ (j : Int) ∧ (j : Int) < 32 := by omega
      go_wp2
      go_roundw
      case rel =>
        refine ⟨j + 1, by omega, by go_num, (hrow.set j _).congr fun i hi => ?_, hbel.setCell (Nat.le_refl _) _⟩
        show (if i = j then _ else _) = _
        by_cases e : i = j
        · subst e
          rw [if_pos rfl, if_pos (by omega)]
        · rw [if_neg e]
          by_cases h2 : i < j
          · rw [if_pos h2, if_pos (by omega)]
          · rw [if_neg h2, if_neg (by omega)]
      case measure => simp [intOf]; omega
    · obtain rfl : j = 32 := by omega
      have hc0 := hrow.cell (i := 0) (by omega)
      have hf0 := hrow.frozen 0
      have hrow0 := hrow.set 0 (.int .u8 (a.toNat : Int))
      have hc31 := hrow0.cell (i := 31) (by omega)
      have hf31 := hrow0.frozen 31
      have hrow31 := hrow0.set 31 (.int .u8 (b.toNat : Int))
      have hbel2 := (hbel.setCell (p := ⟨w.heap.size, 0, none⟩) (Nat.le_refl _) (.int .u8 (a.toNat : Int))).setCell (p := ⟨w.heap.size, 31, none⟩) (Nat.le_refl _) (.int .u8 (b.toNat : Int))
      clear hbel
      go_wp2
      go_ret
      have h := Bs.of_rowIs hrow31 (powL a b) (by rw [powL_length]; omega) (by unfold maxLen; omega) (fun i hi => by
        rw [powL_length] at hi
        have e := powL_get a b i hi
        rw [List.getD_eq_getElem?_getD, List.getElem?_eq_getElem (by rw [powL_length]; exact hi)] at e
        have e' : (powL a b)[i]'(by rw [powL_length]; exact hi) = if i = 31 then b else if i = 0 then a else 255 := e
        rw [e']
        by_cases e31 : i = 31
        · rw [if_pos e31, if_pos e31]
        · rw [if_neg e31, if_neg e31]
          by_cases e0 : i = 0
          · rw [if_pos e0, if_pos e0]
          · rw [if_neg e0, if_neg e0, if_pos hi]
            rfl)
      exact ⟨_, rfl, h, hbel2⟩
set_option maxHeartbeats 2000000 in
theorem refPow_any (A : Nat) (v : Value) (E : List UInt8) (w : World) (hA : A < p25) (hv : Bs w v E) (hl : E.length ≤ 1000) :
    Calls Try.prog 47 #[.agg (arrOf 16 (feF A)), v] w fun e w' => e = .returned (.agg (arrOf 16 (feF (A ^ expB E E.length % p25)))) ∧ Below w.heap.size w w' := by
  obtain ⟨a, n, cap, rfl, hn, hc1, hc2, hB0⟩ := hv.shape
  obtain ⟨w3, hw3, hrA, hrR, hbel, hsz⟩ := two_rows w (feF A) 31
  subst hw3
  have HV := Lib.hid hB0
  have HN := Lib.hid hn
  have HA := Lib.hid hA
  have hn1000 : n ≤ 1000 := by omega
  have hone : (1 : Nat) = A ^ expB E 0 % p25 := by rw [show expB E 0 = 0 from rfl, Nat.pow_zero]; decide +kernel
  have HONE := Lib.hid hone
  clear hv hB0 hn hA hl hone
  go_enter Try.func47, Try.ntmps47
  go_wp2_with (first
    | (go_at_call 19; refine (refSmall_any 1 _ (by decide)).mono ?_; rintro e w5 ⟨rfl, hb5⟩
       have hA5 := (hrA.of_block (hb5.block _ hrA.lt)).alloc (.cells (arrOf 16 (u64f fun _ => 0)) 31)
       have hR5 := (hrR.of_block (hb5.block _ hrR.lt)).alloc (.cells (arrOf 16 (u64f fun _ => 0)) 31)
       have hX5 := rowIs_arr w5 16 (u64f fun _ => 0) 31
       have hB5 := hbel.trans (hb5.mono hbel.size)
       have hB5' := hB5.alloc hB5.size (.cells (arrOf 16 (u64f fun _ => 0)) 31)
       have hs5 := hb5.size
       rw [hsz] at hs5
       clear hrA hrR hb5 hB5)
    | refine wpList_alloc_arr rfl 31 rfl (arrOf 16 (u64f fun _ => 0)) zeroFe ?_
    | (refine wpList_store_arr rfl 31 (.tmp 5) (.tmp 8) rfl 16 arrFe hX5 rfl rfl (by omega) (fun _ _ => rfl) ?_; intro w6 hr6 hg6 hs6))
  have hX : w6.rowIs w5.heap.size 31 16 (feF (A ^ expB E 0 % p25)) := hr6.congr fun i hi => by unfold putN; rw [if_pos (by omega), Nat.sub_zero, ← HONE.out]
  have hA6 : w6.rowIs w.heap.size 31 16 (feF A) := hA5.of_block (hg6.block _ hA5.lt (fun e => by have := Option.some.inj e; omega))
  have hR6 : w6.rowIs (w.heap.size + 1) 31 16 (u64f fun _ => 0) := hR5.of_block (hg6.block _ hR5.lt (fun e => by have := Option.some.inj e; omega))
  have hB6 : Below w.heap.size w w6 := hB5'.grown hg6 hB5'.size (by intro k hk; cases hk; omega)
  clear hA5 hR5 hX5 hB5' hr6 hg6 hs6 hbel hsz
  generalize hg0 : w.heap.size = g0 at *
  generalize hg1 : g0 + 1 = g1 at *
  generalize w5.heap.size = gx at *
  have n0x : g0 ≠ gx := by omega
  have n1x : g1 ≠ gx := by omega
  have l1 : g0 ≤ g1 := by omega
  have lx : g0 ≤ gx := by omega
  have HG := Lib.hid hg0
  have HGS : Hid (∀ wq : World, Below g0 w wq → g0 ≤ wq.heap.size) := Lib.hid fun wq h => by rw [← HG.out]; exact h.size
  clear hg0 hg1 hs5
  go_loopw [6, 7] (fun ii _ wr => ∃ i : Nat, i ≤ n ∧ ii = .int .i64 i ∧ wr.rowIs gx 31 16 (feF (A ^ expB E i % p25)) ∧ wr.rowIs g0 31 16 (feF A) ∧ wr.rowIs g1 31 16 (u64f fun _ => 0) ∧ Below g0 w wr) (fun ii _ _ => n - (intOf ii).toNat)
  case atStart => exact ⟨0, Nat.zero_le _, rfl, hX, hA6, hR6, hB6⟩
  case round =>
    clear hX hA6 hR6 hB6
    obtain ⟨i, hi, rfl, hX, hA, hR, hbel⟩ := hrel
    by_cases hlt : i < n
    · have hiI : 0 ≤ (i : Int) ∧ (i : Int) < (n : Int) := by omega
      go_wp2
      go_loopw [7] (fun kk wq => ∃ m : Nat, m ≤ 8 ∧ kk = .int .i64 ((m : Int) - 1) ∧ wq.rowIs gx 31 16 (feF (A ^ (expB E i * 2 ^ (8 - m) + (E.getD i 0).toNat / 2 ^ m) % p25)) ∧ wq.rowIs g0 31 16 (feF A) ∧ wq.rowIs g1 31 16 (u64f fun _ => 0) ∧ Below g0 w wq) (fun kk _ => ((intOf kk) + 1).toNat)
      case atStart => exact ⟨8, Nat.le_refl _, rfl, by rw [expB_start]; exact hX, hA, hR, hbel⟩
      case round =>
        clear hX hA hR hbel
        obtain ⟨m, hm, rfl, hX, hA, hR, hbel⟩ := hrel
        cases m with
        | zero =>
          rw [expB_end] at hX
          go_wp2
          go_roundw
          case rel => exact ⟨i + 1, by omega, by go_num, hX, hA, hR, hbel⟩
          case measure => simp [intOf]; omega
        | succ k =>
          have hk : k < 8 := by omega
          rw [show ((k + 1 : Nat) : Int) - 1 = (k : Int) by omega]
          have hk0 : 0 ≤ (k : Int) := by omega
          obtain ⟨x, hx⟩ : ∃ x, x = (E.getD i 0).toNat := ⟨_, rfl⟩
          have hx1 : x < 256 := by rw [hx]; exact UInt8.toNat_lt _
          rw [← hx] at hX
          have hstep := expB_step (expB E i) x k hk
          obtain ⟨t, ht⟩ : ∃ t, t = expB E i * 2 ^ (8 - (k + 1)) + x / 2 ^ (k + 1) := ⟨_, rfl⟩
          rw [← ht] at hX hstep
          obtain ⟨b, off, cap', he, _, _, hbl, hc⟩ := HV.out.open_n HN.out (by omega)
          cases he
          have hiE : i < E.length := by rw [HN.out]; exact hlt
          have hci := hc i hiE
          rw [← getD_at E i hiE, ← hx] at hci
          have hbw : b < g0 := by rw [← HG.out]; exact hbl
          have hbgx : b ≠ gx := by omega
          have HX := Lib.hid hx
          have HSTEP := Lib.hid hstep
          have hq := bit_u8 (x / 2 ^ k) (Nat.lt_of_le_of_lt (Nat.div_le_self _ _) hx1)
          have hdiv : (x : Int) / 2 ^ k = ((x / 2 ^ k : Nat) : Int) := by simp
          rw [← hdiv] at hq
          have hbit : x / 2 ^ k % 2 < 2 := Nat.mod_lt _ (by decide)
          clear hc hx hstep hdiv ht
          generalize x / 2 ^ k % 2 = bt at *
          have hX2 := pow_two_mod A t
          have HX2 := Lib.hid hX2
          clear hX2
          by_cases hb1 : bt = 1
          · subst hb1
            have hX3 := Lib.hid (pow_one_mod A (2 * t))
            rw [show ((1 : Nat) : Int) = 1 from rfl] at hq
            go_wp2_with (first
              | (refine wpList_load_arr rfl 31 (.tmp 5) rfl 16 arrFe hX rfl (by omega) ?_; simp only [Nat.zero_add])
              | (refine wpList_load_arr rfl 31 (.tmp 5) rfl 16 arrFe hX7 rfl (by omega) ?_; simp only [Nat.zero_add])
              | (refine wpList_load_arr rfl 31 (.tmp 2) rfl 16 arrFe hA7 rfl (by omega) ?_; simp only [Nat.zero_add])
              | (go_at_call 25
                 first
                   | (have hgo := hX.lt; refine (refMul_any _ _ _ (mod_p_lt (A ^ t)) (mod_p_lt (A ^ t))).mono ?_; rintro e w5 ⟨rfl, hb5⟩; rw [HX2.out]
                      have hX5 := hX.of_block (hb5.block _ hX.lt)
                      have hA5 := hA.of_block (hb5.block _ hA.lt)
                      have hR5 := hR.of_block (hb5.block _ hR.lt)
                      have hB5 := hbel.trans (hb5.mono (HGS.out _ hbel))
                      have hci5 := ((hbel.trans (hb5.mono (HGS.out _ hbel))).cell (p := ⟨b, off + i, none⟩) hbw).trans hci
                      clear hX hA hR hbel hb5)
                   | (have hgo2 := hX7.lt; refine (refMul_any _ _ _ (mod_p_lt (A ^ (2 * t))) HA.out).mono ?_; rintro e w8 ⟨rfl, hb8⟩; rw [hX3.out]
                      have hX8 := hX7.of_block (hb8.block _ hX7.lt)
                      have hA8 := hA7.of_block (hb8.block _ hA7.lt)
                      have hR8 := hR7.of_block (hb8.block _ hR7.lt)
                      have hB8 := hB7.trans (hb8.mono (HGS.out _ hB7))
                      clear hX7 hA7 hR7 hB7 hb8))
              | (refine wpList_store_arr rfl 31 (.tmp 5) (.tmp 21) rfl 16 arrFe hX5 rfl rfl (by omega) (fun _ _ => rfl) ?_; intro w7 hr7 hg7 hs7
                 have hX7 : w7.rowIs gx 31 16 (feF (A ^ (2 * t) % p25)) := hr7.congr fun i hi => by unfold putN; rw [if_pos (by omega), Nat.sub_zero]
                 have hA7 := gb_rowIs hA5 hg7 n0x
                 have hR7 := gb_rowIs hR5 hg7 n1x
                 have hB7 := hB5.grown hg7 (HGS.out _ hB5) (by intro k hk; cases hk; exact lx)
                 have hci7 : w7.cell? ⟨b, off + i, none⟩ = some (.int .u8 (x : Int)) := (World.cell?_of_block (w := w5) (hg7.block _ (Nat.lt_of_lt_of_le hbw (HGS.out _ hB5)) (fun e => hbgx (Option.some.inj e)))).trans hci5
                 clear hX5 hA5 hR5 hB5 hr7 hg7 hs7 hci5)
              | (refine wpList_store_arr rfl 31 (.tmp 5) (.tmp 32) rfl 16 arrFe hX8 rfl rfl (by omega) (fun _ _ => rfl) ?_; intro w9 hr9 hg9 hs9
                 have hX9 : w9.rowIs gx 31 16 (feF (A ^ (2 * t + 1) % p25)) := hr9.congr fun i hi => by unfold putN; rw [if_pos (by omega), Nat.sub_zero]
                 have hA9 := gb_rowIs hA8 hg9 n0x
                 have hR9 := gb_rowIs hR8 hg9 n1x
                 have hB9 := hB8.grown hg9 (HGS.out _ hB8) (by intro k hk; cases hk; exact lx)
                 clear hX8 hA8 hR8 hB8 hr9 hg9 hs9))
            go_roundw
            case rel => exact ⟨k, by omega, by go_num, by rw [← HX.out, HSTEP.out]; exact hX9, hA9, hR9, hB9⟩
            case measure => simp [intOf]
          · have hb0 : bt = 0 := by omega
            subst hb0
            rw [show ((0 : Nat) : Int) = 0 from rfl] at hq
            go_wp2_with (first
              | (refine wpList_load_arr rfl 31 (.tmp 5) rfl 16 arrFe hX rfl (by omega) ?_; simp only [Nat.zero_add])
              | (go_at_call 25
                 first
                   | (have hgo := hX.lt; refine (refMul_any _ _ _ (mod_p_lt (A ^ t)) (mod_p_lt (A ^ t))).mono ?_; rintro e w5 ⟨rfl, hb5⟩; rw [HX2.out]
                      have hX5 := hX.of_block (hb5.block _ hX.lt)
                      have hA5 := hA.of_block (hb5.block _ hA.lt)
                      have hR5 := hR.of_block (hb5.block _ hR.lt)
                      have hB5 := hbel.trans (hb5.mono (HGS.out _ hbel))
                      have hci5 := ((hbel.trans (hb5.mono (HGS.out _ hbel))).cell (p := ⟨b, off + i, none⟩) hbw).trans hci
                      clear hX hA hR hbel hb5))
              | (refine wpList_store_arr rfl 31 (.tmp 5) (.tmp 21) rfl 16 arrFe hX5 rfl rfl (by omega) (fun _ _ => rfl) ?_; intro w7 hr7 hg7 hs7
                 have hX7 : w7.rowIs gx 31 16 (feF (A ^ (2 * t) % p25)) := hr7.congr fun i hi => by unfold putN; rw [if_pos (by omega), Nat.sub_zero]
                 have hA7 := gb_rowIs hA5 hg7 n0x
                 have hR7 := gb_rowIs hR5 hg7 n1x
                 have hB7 := hB5.grown hg7 (HGS.out _ hB5) (by intro k hk; cases hk; exact lx)
                 have hci7 : w7.cell? ⟨b, off + i, none⟩ = some (.int .u8 (x : Int)) := (World.cell?_of_block (w := w5) (hg7.block _ (Nat.lt_of_lt_of_le hbw (HGS.out _ hB5)) (fun e => hbgx (Option.some.inj e)))).trans hci5
                 clear hX5 hA5 hR5 hB5 hr7 hg7 hs7 hci5))
            go_roundw
            case rel => exact ⟨k, by omega, by go_num, by rw [← HX.out, HSTEP.out]; exact hX7, hA7, hR7, hB7⟩
            case measure => simp [intOf]
    · obtain rfl : i = n := by omega
      have hgs := HGS.out _ hbel
      go_wp2_with (first
        | (refine wpList_load_arr rfl 31 (.tmp 5) rfl 16 arrFe hX rfl (by omega) ?_; simp only [Nat.zero_add])
        | (refine wpList_store_arr rfl 31 (.tmp 4) (.tmp 33) rfl 16 arrFe hR rfl rfl (by omega) (fun _ _ => rfl) ?_; intro w9 hr9 hg9 hs9))
      refine ret_cell_arr rfl arrFe hr9 rfl (by omega) rfl ⟨?_, by rw [HG.out]; exact hbel.grown hg9 hgs (by intro k hk; cases hk; exact l1)⟩
      rw [agg_put, HN.out]
end Go.Proofs.Ythapdohblphlgaa
