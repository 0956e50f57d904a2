/- The document's numbers below L: Neg, Bit. -/
import Derived.Test.YtncdlaidmiokiaaScF
namespace Go.Proofs.Ytncdlaidmiokiaa
open Go.RowKit Go.Deep
set_option linter.unusedSimpArgs false
set_option linter.unusedVariables false

theorem ordL_less : ∀ i, i < 32 → byteN (ordL - 1) i = if i = 0 then 236 else byteN ordL i := by
  have h : ∀ i : Fin 32, byteN (ordL - 1) i.val = if i.val = 0 then 236 else byteN ordL i.val := by decide +kernel
  exact fun i hi => h ⟨i, hi⟩
theorem ordL_low : byteN ordL 0 = 237 := by decide +kernel
theorem ordL_pred : ordL - 1 < ordL := by decide +kernel
set_option maxHeartbeats 1000000 in
theorem refScNeg_any (A : Nat) (w : World) (hA : A < ordL) : Calls Try.prog 19 #[.agg (arrOf 32 (bF 32 A))] w fun e w' => e = .returned (.agg (arrOf 32 (bF 32 ((ordL - 1) * A % ordL)))) ∧ Below w.heap.size w w' := by
  have hrA := (rowIs_arr w 32 (bF 32 A) 30).alloc (.cells (arrOf 32 fun _ => .int .u8 0) 30)
  have hrR := rowIs_arr (w.alloc (.cells (arrOf 32 (bF 32 A)) 30)) 32 (fun _ => .int .u8 0) 30
  have hb0 := ((Below.refl w.heap.size w).alloc (Nat.le_refl _) (.cells (arrOf 32 (bF 32 A)) 30)).alloc (by simp) (.cells (arrOf 32 fun _ => .int .u8 0) 30)
  rw [World.size_alloc] at hrR
  have HGS : Hid (∀ wq : World, Below w.heap.size w wq → w.heap.size ≤ wq.heap.size) := Lib.hid fun wq h => h.size
  have HMU := Lib.hid fun w => refScMul_any (ordL - 1) A w ordL_pred hA
  obtain ⟨V, hV⟩ := nat_var ((ordL - 1) * A % ordL)
  rw [← hV] at HMU ⊢
  have hw6 : IntKind.u8.wrap 236 = 236 := by decide
  clear hA hV
  go_enter Try.func19, Try.ntmps19
  go_wp2_with (refine wpList_alloc_arr rfl 30 rfl (arrOf 32 fun _ => .int .u8 0) zeroSc ?_)
  go_at_call 38
  refine (refOrder_any _).mono ?_
  rintro e w1 ⟨rfl, hl1, hb1⟩
  rw [World.size_alloc, World.size_alloc] at hl1
  have kA := hrA.of_block (hb1.block _ hrA.lt)
  have kR := hrR.of_block (hb1.block _ hrR.lt)
  have kb := hb0.trans (hb1.mono hb0.size)
  have hc31 := hl1.cell (i := 31) (by omega)
  have hf31 := hl1.frozen 31
  unfold bF at hc31
  rw [show 32 - 1 - 31 = 0 from rfl, ordL_low, show ((237 : Nat) : Int) = 237 from rfl] at hc31
  have hl2 : (w1.setCell ⟨w.heap.size + 1 + 1, 31, none⟩ (.int .u8 236)).rowIs (w.heap.size + 1 + 1) 5 32 (bF 32 (ordL - 1)) := (hl1.set 31 _).congr fun i hi => by
    show (if i = 31 then _ else _) = _
    unfold bF
    rw [ordL_less (32 - 1 - i) (by omega)]
    by_cases e : i = 31
    · rw [if_pos e, if_pos (by omega)]
      rfl
    · rw [if_neg e, if_neg (by omega)]
  have kA2 := gb_rowIs kA (grownBy_set _ (w.heap.size + 1 + 1) 31 (.int .u8 236)) (by omega)
  have kR2 := gb_rowIs kR (grownBy_set _ (w.heap.size + 1 + 1) 31 (.int .u8 236)) (by omega)
  have kb2 := kb.setCell (p := ⟨w.heap.size + 1 + 1, 31, none⟩) (show w.heap.size ≤ w.heap.size + 1 + 1 by omega) (.int .u8 236)
  have kA3 := kA2.alloc (.cells (arrOf 32 fun _ => .int .u8 0) 30)
  have kR3 := kR2.alloc (.cells (arrOf 32 fun _ => .int .u8 0) 30)
  have kl3 := hl2.alloc (.cells (arrOf 32 fun _ => .int .u8 0) 30)
  have hm3 := rowIs_arr (w1.setCell ⟨w.heap.size + 1 + 1, 31, none⟩ (.int .u8 236)) 32 (fun _ => .int .u8 0) 30
  have hsz : (w1.setCell ⟨w.heap.size + 1 + 1, 31, none⟩ (.int .u8 236)).heap.size = w1.heap.size := by simp
  rw [hsz] at hm3
  have kb3 := kb2.alloc (HGS.out _ kb2) (.cells (arrOf 32 fun _ => .int .u8 0) 30)
  have hBs := bF_bs kl3 (by omega)
  have ltA := kA2.lt
  have ltR := kR2.lt
  have hge := HGS.out _ kb2
  clear hrA hrR hb0 hb1 kA kR kb hl1 hl2 kA2 kR2 kb2 kl3
  go_wp2_with (first
    | refine wpList_alloc_arr rfl 30 rfl (arrOf 32 fun _ => .int .u8 0) zeroSc ?_
    | refine wpList_op rfl (.slice 30 (.tmp 4) none none none) 22 (.slice (some ⟨_, 0, none⟩) 32 32) rfl rfl (exec_sliceAll _ _ _ _ _ undSc infoU8 rfl (by omega)) ?_
    | (refine wpList_copy_bytes rfl (.tmp 12) (.tmp 13) rfl hm3 hBs rfl rfl (by omega) 32 (by rw [beN_length]; rfl) ?_; intro wc hrc hgc hsc
       have hM : wc.rowIs w1.heap.size 30 32 (bF 32 (ordL - 1)) := hrc.congr fun i hi => by
         unfold putN bytesAt
         rw [if_pos (by omega), Nat.sub_zero, getD_at _ i (by rw [beN_length]; exact hi), beN_at]
         rfl
       have kA4 := gb_rowIs kA3 hgc (by omega)
       have kR4 := gb_rowIs kR3 hgc (by omega)
       have kb4 := kb3.grown hgc (HGS.out _ kb3) (by intro k hk; cases hk; omega)
       clear hrc hgc hm3 hBs kA3 kR3 kb3)
    | (refine wpList_load_arr rfl 30 (.tmp 4) rfl 32 arrSc hM rfl (by omega) ?_; simp only [Nat.zero_add])
    | (refine wpList_load_arr rfl 30 (.tmp 1) rfl 32 arrSc kA4 rfl (by omega) ?_; simp only [Nat.zero_add])
    | (go_at_call 17; refine (HMU.out _).mono ?_; rintro e w5 ⟨rfl, hb5⟩
       have kR5 := kR4.of_block (hb5.block _ kR4.lt)
       have kb5 := kb4.trans (hb5.mono (HGS.out _ kb4))
       clear kR4 kb4 hb5)
    | (refine wpList_store_arr rfl 30 (.tmp 2) (.tmp 17) rfl 32 arrSc kR5 rfl rfl (by omega) (fun _ _ => rfl) ?_; intro wd hrd hgd hsd))
  refine ret_cell_arr rfl arrSc hrd rfl (by omega) rfl ⟨?_, kb5.grown hgd (HGS.out _ kb5) (by intro k hk; cases hk; omega)⟩
  refine congrArg (fun x => Ending.returned (.agg x)) (arrOf_congr fun i hi => ?_)
  unfold putN
  rw [if_pos (by omega), Nat.zero_add, Nat.sub_zero]
/-- Digit k of a number; none outside of 0 to 255. -/
def bitZ (V : Nat) (k : Int) : Nat := if 0 ≤ k ∧ k ≤ 255 then V / 2 ^ k.toNat % 2 else 0
set_option maxHeartbeats 1000000 in
theorem refScBit_any (V : Nat) (k : Int) (w : World) (hk0 : -9223372036854775808 ≤ k) (hk1 : k ≤ 9223372036854775807) : Calls Try.prog 22 #[.agg (arrOf 32 (bF 32 V)), .int .i64 k] w fun e w' => e = .returned (.int .i64 (bitZ V k : Nat)) ∧ Below w.heap.size w w' := by
  have hr := rowIs_arr w 32 (bF 32 V) 30
  have hb0 := (Below.refl w.heap.size w).alloc (Nat.le_refl _) (.cells (arrOf 32 (bF 32 V)) 30)
  by_cases h0 : 0 ≤ k
  · by_cases h1 : k ≤ 255
    · obtain ⟨n, rfl⟩ := Int.eq_ofNat_of_zero_le h0
      have hbz : bitZ V (n : Int) = V / 2 ^ n % 2 := by unfold bitZ; rw [if_pos ⟨h0, h1⟩]; rfl
      have hbt := bit_at V n
      obtain ⟨q, hq⟩ := nat_var (n / 8)
      obtain ⟨r, hr8⟩ := nat_var (n % 8)
      rw [← hq, ← hr8] at hbt
      have hc : (w.alloc (.cells (arrOf 32 (bF 32 V)) 30)).cell? ⟨w.heap.size, 31 - q, none⟩ = some (.int .u8 ((byteN V q : Nat) : Int)) := by
        rw [hr.cell (i := 31 - q) (by omega)]
        unfold bF
        rw [show 32 - 1 - (31 - q) = q by omega]
      obtain ⟨x, hx⟩ := nat_var (byteN V q)
      have hxl : x < 256 := by rw [hx]; exact byteN_lt V q
      rw [← hx] at hc hbt
      obtain ⟨y, hy⟩ := nat_var (x / 2 ^ r)
      have hyl : y < 256 := by rw [hy]; exact Nat.lt_of_le_of_lt (Nat.div_le_self _ _) hxl
      rw [← hy] at hbt
      obtain ⟨b, hb⟩ := nat_var (y % 2)
      rw [← hb] at hbt
      obtain ⟨j, hj⟩ := nat_var (31 - q)
      rw [← hj] at hc
      have hwj : IntKind.i64.wrap (31 - (q : Int)) = (j : Int) := by rw [IntWalk.i64_in _ (by omega)]; omega
      have hjI : 0 ≤ (j : Int) ∧ (j : Int) < 32 := by omega
      have hwb : IntKind.i64.wrap (b : Int) = (b : Int) := IntWalk.i64_in _ (by omega)
      have hn0 : ¬ (n : Int) < 0 := by omega
      have hn255 : ¬ (n : Int) > 255 := by omega
      have HQ := Lib.hid hq
      have HR := Lib.hid hr8
      have HNN : Hid (n < 1000) := Lib.hid (by omega)
      have HY := Lib.hid hy
      have HRL : Hid (r < 8) := Lib.hid (by omega)
      have HXL := Lib.hid hxl
      have HB := Lib.hid hb
      have HYL := Lib.hid hyl
      rw [hbz, ← hbt]
      clear hbz hbt hq hr8 hx hxl hy hyl hb hj h0 h1 hk0 hk1 hr
      go_enter Try.func22, Try.ntmps22
      go_wp2_with (first
        | refine wpList_quo8 rfl (.tmp 11) (.const (.int .i64 8)) rfl rfl rfl HQ.out HNN.out ?_
        | refine wpList_rem8 rfl (.tmp 16) (.const (.int .i64 8)) rfl rfl rfl HR.out HNN.out ?_
        | refine wpList_shr8 rfl (.tmp 15) (.tmp 17) rfl rfl rfl HY.out HRL.out HXL.out ?_
        | refine wpList_and1 rfl (.tmp 18) (.const (.int .u8 1)) rfl rfl rfl HB.out HYL.out ?_)
      go_ret
      exact ⟨rfl, hb0⟩
    · have hbz : bitZ V k = 0 := by unfold bitZ; rw [if_neg (fun h => h1 h.2)]
      rw [hbz]
      have hn0 : ¬ k < 0 := by omega
      have hn255 : k > 255 := by omega
      clear h0 h1 hbz hr
      go_enter Try.func22, Try.ntmps22
      go_wp2
      go_ret
      exact ⟨rfl, hb0⟩
  · have hbz : bitZ V k = 0 := by unfold bitZ; rw [if_neg (fun h => h0 h.1)]
    rw [hbz]
    have hn0 : k < 0 := by omega
    clear h0 hbz hr
    go_enter Try.func22, Try.ntmps22
    go_wp2
    go_ret
    exact ⟨rfl, hb0⟩
end Go.Proofs.Ytncdlaidmiokiaa
