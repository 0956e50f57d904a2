/- The document's numbers below p: Of. -/
import Derived.Test.YthapdohblphlgaaFeE
import Derived.Test.YthapdohblphlgaaCopy
namespace Go.Proofs.Ythapdohblphlgaa
open Go.RowKit Go.Deep

/-- The number of bytes, the least first: so many of them; noughts for those that are wanting. -/
def numL (l : List UInt8) : Nat → Nat
  | 0 => 0
  | k + 1 => numL l k + (l.getD k 0).toNat * 256 ^ k
/-- What Of reads: 32 bytes without the highest bit. -/
def ofL (l : List UInt8) : Nat := numL l 32 % top % p25

/-- The parts that Of lays: two bytes each, the last byte without its highest bit. -/
def ofF (l : List UInt8) (j : Nat) : Nat := (l.getD (2 * j) 0).toNat + (if j = 15 then (l.getD 31 0).toNat % 128 else (l.getD (2 * j + 1) 0).toNat) * 256
theorem numL_lt (l : List UInt8) : ∀ k, numL l k < 256 ^ k
  | 0 => by simp [numL]
  | k + 1 => by
    rw [numL, Nat.pow_succ]
    have h1 := numL_lt l k
    have h2 := UInt8.toNat_lt (l.getD k 0)
    have h3 : (l.getD k 0).toNat * 256 ^ k ≤ 255 * 256 ^ k := Nat.mul_le_mul_right _ (by omega)
    omega
theorem valL_pairs (l : List UInt8) : ∀ n, valL (fun j => (l.getD (2 * j) 0).toNat + (l.getD (2 * j + 1) 0).toNat * 256) n = numL l (2 * n)
  | 0 => rfl
  | n + 1 => by
    rw [valL, valL_pairs l n, show 2 * (n + 1) = 2 * n + 1 + 1 by omega, numL, numL]
    have e : (65536 : Nat) ^ n = 256 ^ (2 * n) := by rw [Nat.pow_mul]
    rw [e, Nat.add_mul, Nat.pow_succ]
    have e2 : (l.getD (2 * n + 1) 0).toNat * 256 * 256 ^ (2 * n) = (l.getD (2 * n + 1) 0).toNat * (256 ^ (2 * n) * 256) := by ac_rfl
    omega
theorem ofF_val (l : List UInt8) : valL (ofF l) 16 = numL l 32 % top := by
  have h1 := valL_pairs l 15
  have e1 : valL (ofF l) 15 = numL l 30 := by
    rw [← h1]
    exact valL_congr 15 fun j hj => by unfold ofF; rw [if_neg (by omega)]
  rw [valL, e1]
  have e2 : ofF l 15 = (l.getD 30 0).toNat + (l.getD 31 0).toNat % 128 * 256 := by unfold ofF; rw [if_pos rfl]
  rw [e2]
  have h3 := numL_lt l 30
  have e3 : numL l 32 = numL l 30 + ((l.getD 30 0).toNat + (l.getD 31 0).toNat * 256) * 256 ^ 30 := by
    show numL l 30 + (l.getD 30 0).toNat * 256 ^ 30 + (l.getD 31 0).toNat * 256 ^ 31 = _
    rw [Nat.add_mul, show (256 : Nat) ^ 31 = 256 * 256 ^ 30 by decide +kernel]
    generalize (256 : Nat) ^ 30 = Z
    rw [← Nat.mul_assoc]
    omega
  have e4 : top = 256 ^ 30 * 32768 := by decide +kernel
  have e5 : (65536 : Nat) ^ 15 = 256 ^ 30 := by decide +kernel
  rw [e3, e4, e5]
  have h30 := UInt8.toNat_lt (l.getD 30 0)
  have h31 := UInt8.toNat_lt (l.getD 31 0)
  generalize (l.getD 30 0).toNat = x at *
  generalize (l.getD 31 0).toNat = y at *
  generalize numL l 30 = n at *
  have hz : 0 < 256 ^ 30 := by decide +kernel
  generalize (256 : Nat) ^ 30 = Z at *
  have e6 : n + (x + y * 256) * Z = n + (x + y % 128 * 256) * Z + Z * 32768 * (y / 128) := by
    have : y = y % 128 + 128 * (y / 128) := by omega
    have e7 : x + y * 256 = (x + y % 128 * 256) + 32768 * (y / 128) := by omega
    rw [e7, Nat.add_mul]
    have e8 : 32768 * (y / 128) * Z = Z * 32768 * (y / 128) := by ac_rfl
    omega
  have h5 : (x + y % 128 * 256) * Z ≤ 32767 * Z := Nat.mul_le_mul_right _ (by omega)
  have h8 := Nat.add_lt_add_of_lt_of_le h3 h5
  have h9 : Z + 32767 * Z = Z * 32768 := by rw [Nat.mul_comm Z 32768, show (32768 : Nat) = 32767 + 1 from rfl, Nat.add_mul, Nat.one_mul, Nat.add_comm]
  rw [h9] at h8
  rw [e6, Nat.add_mul_mod_self_left]
  exact (Nat.mod_eq_of_lt h8).symm

theorem or_parts (x y : Nat) (hx : x < 256) (hy : y < 256) : bits .or .u64 (x : Int) ((y * 256 : Nat) : Int) = ((x + y * 256 : Nat) : Int) := by
  have h := or64 (BitVec.ofNat 64 x) (BitVec.ofNat 64 (y * 256))
  rw [ofNat64 x (by omega), ofNat64 (y * 256) (by omega)] at h
  rw [h, BitVec.toNat_or, BitVec.toNat_ofNat, BitVec.toNat_ofNat, Nat.mod_eq_of_lt (show x < 2 ^ 64 by omega), Nat.mod_eq_of_lt (show y * 256 < 2 ^ 64 by omega)]
  have e := Nat.two_pow_add_eq_or_of_lt (show x < 2 ^ 8 by omega) y
  rw [Nat.or_comm, show y * 256 = 2 ^ 8 * y by omega, ← e]
  omega
theorem and_127 (x : UInt8) : bits .and .u8 (x.toNat : Int) 127 = ((UInt8.ofNat (x.toNat % 128)).toNat : Int) := by
  have hx := UInt8.toNat_lt x
  have h : bits .and .u8 (x.toNat : Int) 127 = ((x.toNat % 128 : Nat) : Int) := by
    show IntKind.u8.wrap (((BitVec.ofInt 8 (x.toNat : Int)) &&& (BitVec.ofInt 8 127)).toNat : Int) = _
    have e1 : (BitVec.ofInt 8 (x.toNat : Int)).toNat = x.toNat := by simp
    rw [BitVec.toNat_and, e1, show (BitVec.ofInt 8 127).toNat = 2 ^ 7 - 1 from rfl, Nat.and_two_pow_sub_one_eq_mod, IntWalk.u8_in _ ⟨by omega, by omega⟩]
  rw [h]
  simp only [UInt8.toNat_ofNat']
  omega
/-- A byte is set in what reads as bytes. -/
theorem row_bytes {w : World} {b n : Nat} {t : TypeId} {f : Nat → Value} (h : w.rowIs b t n f) (l : List UInt8) (hf : ∀ i, i < n → f i = .int .u8 ((l.getD i 0).toNat : Int)) : w.rowIs b t n (bytesAt l) := h.congr hf

/-- Fill, the row that it makes told. -/
theorem refFillRow_any (v : Value) (l : List UInt8) (n : Nat) (w : World) (hv : Bs w v l) (hn : n ≤ 2147483647) (hn0 : 0 < n) :
    Calls Try.prog 38 #[v, .int .i64 (n : Int)] w fun e w' => e = .returned (.slice (some ⟨w.heap.size, 0, none⟩) n n) ∧ w'.rowIs w.heap.size 5 n (bytesAt l) ∧ Below w.heap.size w w' := by
  obtain ⟨a, m, cap, rfl, hm, hc1, hc2, hB0⟩ := hv.shape
  have hmk : ∀ w : World, (Instr.makeSlice 22 (.int .i64 n) (.int .i64 n)).run Try.prog w = .ok (.slice (some ⟨w.heap.size, 0, none⟩) n n) (w.alloc (.cells (madeCells #[.int .u8 0] n) 5)) :=
    fun w => run_make_row' (P := Try.prog) 22 5 (.int .u8 0) 1 Try.underlying22 Try.info5 rfl .i64 .i64 n (by omega) (by omega) w
  have hmade := World.rowIs_made w (.int .u8 0) n 5
  have hb1 : Below w.heap.size w (w.alloc (.cells (madeCells #[.int .u8 0] n) 5)) := (Below.refl _ _).alloc (Nat.le_refl _) _
  have HB := Lib.hid (hB0.below hb1 (Nat.le_refl _))
  have HM := Lib.hid hm
  clear hv hB0 hm
  go_enter Try.func38, Try.ntmps38
  go_wp2_with (refine wpList_copy_bytes rfl (.tmp 8) (.tmp 9) rfl hmade HB.out rfl rfl (by omega) _ rfl ?_; intro w3 hr3 hg3 hs3)
  go_ret
  have hb3 : Below w.heap.size w w3 := hb1.grown hg3 hb1.size (by intro k hk; cases hk; omega)
  refine ⟨rfl, hr3.congr fun i hi => ?_, hb3⟩
  unfold putN bytesAt
  by_cases h1 : i < Nat.min l.length n
  · rw [if_pos ⟨by omega, by omega⟩, Nat.sub_zero]
  · have h2 : l.length ≤ i := by
      have e2 : Nat.min l.length n = min l.length n := rfl
      rw [e2] at h1
      omega
    rw [if_neg (by omega), List.getD_eq_getElem?_getD, List.getElem?_eq_none h2]
    rfl

/-- The bytes with the highest bit of the 32nd struck. -/
def strikeL (l : List UInt8) : Nat → Value := fun i => if i = 31 then .int .u8 ((UInt8.ofNat ((l.getD 31 0).toNat % 128)).toNat : Int) else .int .u8 ((l.getD i 0).toNat : Int)

set_option maxHeartbeats 2000000 in
theorem refOf_any (v : Value) (l : List UInt8) (w : World) (hv : Bs w v l) : Calls Try.prog 14 #[v] w fun e w' => e = .returned (.agg (arrOf 16 (feF (ofL l)))) ∧ Below w.heap.size w w' := by
  have hR0 := rowIs_arr w 16 (u64f fun _ => 0) 31
  have hb0 : Below w.heap.size w (w.alloc (.cells (arrOf 16 (u64f fun _ => 0)) 31)) := (Below.refl _ _).alloc (Nat.le_refl _) _
  have HV := Lib.hid (hv.below hb0 (Nat.le_refl _))
  clear hv
  go_enter Try.func14, Try.ntmps14
  go_wp2_with (first
    | refine wpList_alloc_arr rfl 31 rfl (arrOf 16 (u64f fun _ => 0)) zeroFe ?_
    | (go_at_call 38; refine (refFillRow_any _ l 32 _ HV.out (by omega) (by omega)).mono ?_; rintro e w1 ⟨rfl, hC1, hb1⟩
       rw [World.size_alloc] at hC1
       have hR1 := hR0.of_block (hb1.block _ hR0.lt)
       have hb01 := hb0.trans (hb1.mono hb0.size)
       have hltR := hR0.lt
       have hc31 : w1.cell? ⟨_, 31, none⟩ = some (.int .u8 ((l.getD 31 0).toNat : Int)) := hC1.cell (i := 31) (by omega)
       have hf31 := hC1.frozen 31
       have hand := and_127 (l.getD 31 0)
       have hrow : ∀ v, v = .int .u8 ((UInt8.ofNat ((l.getD 31 0).toNat % 128)).toNat : Int) → (w1.setCell ⟨w.heap.size + 1, 31, none⟩ v).rowIs (w.heap.size + 1) 5 32 (strikeL l) := fun v hv => by subst hv; exact hC1.set 31 _
       have HROW := Lib.hid hrow
       generalize hy : l.getD 31 0 = y at *
       have HY := Lib.hid hy
       generalize hyy : UInt8.ofNat (y.toNat % 128) = z at *
       have HYY := Lib.hid hyy
       clear hR0 hb1 hy hyy hrow))
  have hC := (HROW.out _ rfl).alloc (.cells (arrOf 16 (u64f fun _ => 0)) 31)
  have hR := (hR1.setOther (show w.heap.size ≠ (⟨w.heap.size + 1, 31, none⟩ : Addr).block by show w.heap.size ≠ w.heap.size + 1; omega) (.int .u8 (z.toNat : Int))).alloc (.cells (arrOf 16 (u64f fun _ => 0)) 31)
  have hbw : Below w.heap.size w ((w1.setCell ⟨w.heap.size + 1, 31, none⟩ (.int .u8 (z.toNat : Int))).alloc (.cells (arrOf 16 (u64f fun _ => 0)) 31)) := (hb01.setCell (by show w.heap.size ≤ w.heap.size + 1; omega) _).alloc (by simp; exact hb01.size) _
  have hF := rowIs_arr (w1.setCell ⟨w.heap.size + 1, 31, none⟩ (.int .u8 (z.toNat : Int))) 16 (u64f fun _ => 0) 31
  rw [World.size_setCell] at hF
  have hlC := hC1.lt
  generalize ((w1.setCell ⟨w.heap.size + 1, 31, none⟩ (.int .u8 (z.toNat : Int))).alloc (.cells (arrOf 16 (u64f fun _ => 0)) 31)) = w2 at *
  generalize hg0 : w.heap.size = g0 at *
  generalize hg1 : g0 + 1 = g1 at *
  generalize hg2 : w1.heap.size = g2 at *
  have n12 : g1 ≠ g2 := by omega
  have n02 : g0 ≠ g2 := by omega
  have l2 : g0 ≤ g2 := by omega
  have HG := Lib.hid hg0
  clear hC1 hR1 hb01 hb0 hltR hc31 hf31 HROW hg0 hg1 hg2 hlC hand HV
  go_loopw [5] (fun i wr => ∃ j : Nat, j ≤ 16 ∧ i = .int .i64 j ∧ wr.rowIs g2 31 16 (u64f fun i => if i < j then ofF l i else 0) ∧ wr.rowIs g1 5 32 (strikeL l) ∧ wr.rowIs g0 31 16 (u64f fun _ => 0) ∧ Below g0 w wr) (fun i _ => 16 - (intOf i).toNat)
  case atStart => exact ⟨0, Nat.zero_le _, rfl, hF.congr fun i _ => rfl, hC, hR, hbw⟩
  case round =>
    clear hF hC hR hbw
    obtain ⟨j, hj, rfl, hF, hC, hR, hbel⟩ := hrel
    by_cases hlt : j < 16
    · obtain ⟨x, hx⟩ : ∃ x, x = (l.getD (2 * j) 0).toNat := ⟨_, rfl⟩
      obtain ⟨y, hy⟩ : ∃ y, y = if j = 15 then (l.getD 31 0).toNat % 128 else (l.getD (2 * j + 1) 0).toNat := ⟨_, rfl⟩
      have hx1 : x < 256 := by rw [hx]; exact UInt8.toNat_lt _
      have hy1 : y < 256 := by
        have h1 := UInt8.toNat_lt (l.getD 31 0)
        have h2 := UInt8.toNat_lt (l.getD (2 * j + 1) 0)
        rw [hy]; split <;> omega
      have hof : ofF l j = x + y * 256 := by rw [hx, hy]; rfl
      have hc0 : wr.cell? ⟨g1, 2 * j, none⟩ = some (.int .u8 (x : Int)) := by
        have h := hC.cell (i := 2 * j) (by omega)
        unfold strikeL at h
        rw [if_neg (by omega), ← hx] at h
        exact h
      have hc1 : wr.cell? ⟨g1, 2 * j + 1, none⟩ = some (.int .u8 (y : Int)) := by
        have h := hC.cell (i := 2 * j + 1) (by omega)
        unfold strikeL at h
        rw [hy]
        by_cases e : j = 15
        · subst e
          rw [if_pos rfl] at h ⊢
          rw [h]
          congr 2
          simp only [UInt8.toNat_ofNat']
          omega
        · rw [if_neg (by omega)] at h
          rw [if_neg e]
          exact h
      have hfr := hF.frozen j
      have hcF := hF.cell hlt
      have hjI : 0 ≤ (j : Int) ∧ (j : Int) < 16 := by omega
      have hset : (wr.drew.setCell ⟨g2, j, none⟩ (.int .u64 ((x + y * 256 : Nat) : Int))).rowIs g2 31 16 (u64f fun i => if i < j + 1 then ofF l i else 0) := row_set_drew hF _ _ _ (fun i hi => by
        by_cases e : i = j
        · subst e; rw [if_pos (Nat.lt_succ_self i), if_pos rfl, hof]
        · rw [if_neg e]
          by_cases h2 : i < j
          · rw [if_pos h2, if_pos (by omega)]
          · rw [if_neg h2, if_neg (by omega)])
      have HSET := Lib.hid hset
      have hw1 : IntKind.i64.wrap (2 * (j : Int)) = ((2 * j : Nat) : Int) := by rw [IntWalk.i64_in _ (by omega)]; omega
      have hw2 : IntKind.i64.wrap (((2 * j : Nat) : Int) + 1) = ((2 * j + 1 : Nat) : Int) := by rw [IntWalk.i64_in _ (by omega)]; omega
      have hk0 : 0 ≤ ((2 * j : Nat) : Int) ∧ ((2 * j : Nat) : Int) < 32 := by omega
      have hk1 : 0 ≤ ((2 * j + 1 : Nat) : Int) ∧ ((2 * j + 1 : Nat) : Int) < 32 := by omega
      have hor := or_parts x y hx1 hy1
      have hcx : IntKind.u64.wrap (x : Int) = (x : Int) := IntWalk.u64_in _ ⟨by omega, by omega⟩
      have hcy : IntKind.u64.wrap (y : Int) = (y : Int) := IntWalk.u64_in _ ⟨by omega, by omega⟩
      have hsh : IntKind.u64.wrap ((y : Int) * 2 ^ 8) = ((y * 256 : Nat) : Int) := by rw [IntWalk.u64_in _ ⟨by omega, by omega⟩]; omega
      have hsh2 : IntKind.u64.wrap ((y : Int) * 256) = ((y * 256 : Nat) : Int) := by rw [IntWalk.u64_in _ ⟨by omega, by omega⟩]; omega
      generalize 2 * j + 1 = k1 at *
      generalize 2 * j = k0 at *
      generalize x + y * 256 = v at *
      generalize y * 256 = y8 at *
      clear hset hx hy hof hlt hx1 hy1
      go_wp2
      go_region
      go_wp2
      go_roundw
      case rel => exact ⟨j + 1, by omega, by go_num, HSET.out, hC.drew.setOther n12 _, hR.drew.setOther n02 _, hbel.drew.setCell (show g0 ≤ (⟨g2, j, none⟩ : Addr).block from l2) _⟩
      case measure => simp [intOf]; omega
    · obtain rfl : j = 16 := by omega
      have hF' : wr.rowIs g2 31 16 (u64f (ofF l)) := hF.congr fun i hi => by dsimp only [u64f]; rw [if_pos hi]
      have hgs : g0 ≤ wr.heap.size := by rw [← HG.out]; exact hbel.size
      clear hF hC
      go_wp2_with (first
        | (refine wpList_load_arr rfl 31 (.tmp 4) rfl 16 arrFe hF' rfl (by omega) ?_; simp only [Nat.zero_add])
        | (go_at_call 39; refine (refCarried_any (ofF l) _ (fun i => by
             have h1 := UInt8.toNat_lt (l.getD (2 * i) 0)
             have h2 := UInt8.toNat_lt (l.getD 31 0)
             have h3 := UInt8.toNat_lt (l.getD (2 * i + 1) 0)
             unfold ofF
             split <;> omega)).mono ?_; rintro e w5 ⟨rfl, hb5⟩
           have hR5 := hR.of_block (hb5.block _ hR.lt)
           have hB5 := hbel.trans (hb5.mono hgs)
           have hgs5 := Nat.le_trans hgs hb5.size
           clear hF' hR hb5)
        | (refine wpList_store_arr rfl 31 (.tmp 2) (.tmp 36) rfl 16 arrFe hR5 rfl rfl (by omega) (fun _ _ => rfl) ?_; intro w6 hr6 hg6 hs6))
      refine ret_cell_arr rfl arrFe hr6 rfl (by omega) rfl ⟨?_, by rw [HG.out]; exact hB5.grown hg6 hgs5 (by intro k hk; cases hk; exact Nat.le_refl _)⟩
      rw [agg_put, ofF_val]
      rfl
end Go.Proofs.Ythapdohblphlgaa
