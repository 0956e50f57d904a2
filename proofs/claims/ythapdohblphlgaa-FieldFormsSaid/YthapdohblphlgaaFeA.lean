/- The document's numbers below p: prime, least, carried. -/
import Derived.Test.YthapdohblphlgaaGrow
import Derived.Test.YthapdohblphlgaaEqArr
import Derived.Test.YthapdohblphlgaaFeM
namespace Go.Proofs.Ythapdohblphlgaa
open Go.RowKit Go.Deep

def u64f (f : Nat → Nat) : Nat → Value := fun j => .int .u64 (f j : Int)
def feF (V : Nat) : Nat → Value := u64f (dig V)
theorem arrFe : IsArr Try.prog 31 16 := ⟨by kernel_rfl, by kernel_rfl⟩
theorem zeroFe : (Try.prog.info? 31).map (fun i => i.zero) = some (some (.agg (arrOf 16 (u64f fun _ => 0)))) := by kernel_rfl
/-- One part is set. -/
theorem row_set {w : World} {b n : Nat} {t : TypeId} {f : Nat → Nat} (h : w.rowIs b t n (u64f f)) (j v : Nat) (g : Nat → Nat) (hg : ∀ i, i < n → g i = if i = j then v else f i) : (w.setCell ⟨b, j, none⟩ (.int .u64 (v : Int))).rowIs b t n (u64f g) :=
  (h.set j _).congr fun i hi => by
    show (if i = j then _ else _) = _
    unfold u64f
    rw [hg i hi]
    by_cases e : i = j
    · rw [if_pos e, if_pos e]
    · rw [if_neg e, if_neg e]
/-- p's own parts. -/
theorem p25_dig : ∀ i, i < 16 → dig p25 i = if i = 15 then 32767 else if i = 0 then 65517 else 65535 := by decide +kernel

set_option maxHeartbeats 1000000 in
theorem refPrime_any (w : World) : Calls Try.prog 43 #[] w fun e w' => e = .returned (.agg (arrOf 16 (feF p25))) ∧ Below w.heap.size w w' := by
  have hres := rowIs_arr w 16 (u64f fun _ => 0) 31
  have hp := rowIs_arr (w.alloc (.cells (arrOf 16 (u64f fun _ => 0)) 31)) 16 (u64f fun _ => 0) 31
  have hres1 := hres.alloc (.cells (arrOf 16 (u64f fun _ => 0)) 31)
  have hb : Below w.heap.size w ((w.alloc (.cells (arrOf 16 (u64f fun _ => 0)) 31)).alloc (.cells (arrOf 16 (u64f fun _ => 0)) 31)) := ((Below.refl _ _).alloc (Nat.le_refl _) _).alloc (by simp) _
  rw [World.size_alloc] at hp
  clear hres
  go_enter Try.func43, Try.ntmps43
  go_wp2_with (refine wpList_alloc_arr rfl 31 rfl (arrOf 16 (u64f fun _ => 0)) zeroFe ?_)
  generalize hq : w.heap.size + 1 = q at *
  generalize ((w.alloc (.cells (arrOf 16 (u64f fun _ => 0)) 31)).alloc (.cells (arrOf 16 (u64f fun _ => 0)) 31)) = w1 at *
  have HQ := Lib.hid hq
  have hne : w.heap.size ≠ q := by omega
  have hne' : q ≠ w.heap.size := by omega
  have hge : w.heap.size ≤ q := by omega
  clear hq
  go_loopw [2] (fun i wr => ∃ j : Nat, j ≤ 16 ∧ i = .int .i64 j ∧ wr.rowIs q 31 16 (u64f fun i => if i < j then 65535 else 0) ∧ wr.rowIs w.heap.size 31 16 (u64f fun _ => 0) ∧ Below w.heap.size w wr) (fun i _ => 16 - (intOf i).toNat)
  case atStart => exact ⟨0, Nat.zero_le _, rfl, hp.congr fun i _ => rfl, hres1, hb⟩
  case round =>
    clear hp hres1 hb
    obtain ⟨j, hj, rfl, hrow, hres, hbel⟩ := hrel
    by_cases hlt : j < 16
    · have hcell := hrow.cell hlt
      have hfr := hrow.frozen j
      have hj8 : (j : Int) < 16 := by omega
      go_wp2
      go_roundw
      case rel =>
        exact ⟨j + 1, by omega, by go_num, row_set hrow j 65535 _ (fun i hi => by (repeat' split) <;> omega), hres.setOther hne _, hbel.setCell hge _⟩
      case measure => simp [intOf]; omega
    · obtain rfl : j = 16 := by omega
      have hc0 := hrow.cell (i := 0) (by omega)
      have hf0 := hrow.frozen 0
      have hrow0 := hrow.set 0 (.int .u64 65517)
      have hc15 := hrow0.cell (i := 15) (by omega)
      have hf15 := hrow0.frozen 15
      have hrow15 := hrow0.set 15 (.int .u64 32767)
      have hres15 := (hres.setOther (show w.heap.size ≠ (⟨q, 0, none⟩ : Addr).block from hne) (.int .u64 65517)).setOther (show w.heap.size ≠ (⟨q, 15, none⟩ : Addr).block from hne) (.int .u64 32767)
      have hb15 := (hbel.setCell (show w.heap.size ≤ (⟨q, 0, none⟩ : Addr).block from hge) (.int .u64 65517)).setCell (show w.heap.size ≤ (⟨q, 15, none⟩ : Addr).block from hge) (.int .u64 32767)
      have hbs := hbel.size
      clear hrow hrow0 hres hbel
      go_wp2_with (first
        | refine wpList_load_arr rfl 31 (.tmp 1) rfl 16 arrFe hrow15 rfl (by omega) ?_
        | (refine wpList_store_arr rfl 31 (.tmp 0) (.tmp 11) rfl 16 arrFe hres15 rfl rfl (by omega) (fun j hj => by simp only [Nat.zero_add]; split <;> first | rfl | (split <;> rfl)) ?_; intro w2 hr2 hg2 hs2))
      refine ret_cell_arr rfl arrFe hr2 rfl (by omega) rfl ⟨?_, hb15.grown hg2 (by simp only [World.size_setCell]; exact hbs) (by intro k hk; cases hk; omega)⟩
      refine congrArg (fun c => Ending.returned (Value.agg c)) (arrOf_congr fun i hi => ?_)
      unfold putN feF u64f
      rw [if_pos (by omega), p25_dig i hi]
      simp only [Nat.zero_add, Nat.sub_zero]
      by_cases e15 : i = 15
      · rw [if_pos e15, if_pos e15]; rfl
      · rw [if_neg e15, if_neg e15]
        by_cases e0 : i = 0
        · rw [if_pos e0, if_pos e0]; rfl
        · rw [if_neg e0, if_neg e0, if_pos hi]
set_option maxHeartbeats 1000000 in
theorem refLeast_any (V : Nat) (w : World) (hV : V < 65536 ^ 16) : Calls Try.prog 50 #[.agg (arrOf 16 (feF V))] w fun e w' => e = .returned (.bool (decide (V < p25))) ∧ Below w.heap.size w w' := by
  have ha0 := rowIs_arr w 16 (feF V) 31
  have hb0 : Below w.heap.size w (w.alloc (.cells (arrOf 16 (feF V)) 31)) := (Below.refl _ _).alloc (Nat.le_refl _) _
  have HV := Lib.hid hV
  clear hV
  go_enter Try.func50, Try.ntmps50
  go_wp2_with (first
    | (go_at_call 43; refine (refPrime_any _).mono ?_; rintro e w1 ⟨rfl, hb1⟩
       have ha1 := (ha0.of_block (hb1.block _ ha0.lt)).alloc (.cells (arrOf 16 (u64f fun _ => 0)) 31)
       have hp1 := rowIs_arr w1 16 (u64f fun _ => 0) 31
       have hs0 := hb0.size
       have hs1 := hb1.size
       have hb2 := (hb0.trans (hb1.mono hb0.size))
       have hb3 := hb2.alloc hb2.size (.cells (arrOf 16 (u64f fun _ => 0)) 31)
       have hlt0 := ha0.lt
       clear ha0 hb0 hb1)
    | refine wpList_alloc_arr rfl 31 rfl (arrOf 16 (u64f fun _ => 0)) zeroFe ?_
    | (refine wpList_store_arr rfl 31 (.tmp 3) (.tmp 5) rfl 16 arrFe hp1 rfl rfl (by omega) (fun _ _ => rfl) ?_; intro w2 hr2 hg2 hs2))
  have hlt1 : w.heap.size < w1.heap.size := by
    rw [World.size_alloc] at hs1
    omega
  have hA : w2.rowIs w.heap.size 31 16 (feF V) := ha1.of_block (hg2.block _ ha1.lt (fun e => by have := Option.some.inj e; omega))
  have hP : w2.rowIs w1.heap.size 31 16 (feF p25) := hr2.congr fun i hi => by unfold putN; rw [if_pos (by omega), Nat.sub_zero]
  have hB : Below w.heap.size w w2 := hb3.grown hg2 hb3.size (by intro k hk; cases hk; omega)
  clear ha1 hp1 hr2 hg2 hs2 hb2 hb3 hs0 hs1 hlt0
  generalize hga : w.heap.size = ga at *
  generalize w1.heap.size = gp at *
  have HGA := Lib.hid hga
  clear hga
  have h16 : V / 65536 ^ 16 = p25 / 65536 ^ 16 := by rw [Nat.div_eq_of_lt HV.out, Nat.div_eq_of_lt p25_lt_B]
  go_loopw [4] (fun i wr => ∃ j : Nat, j ≤ 16 ∧ i = .int .i64 ((j : Int) - 1) ∧ Hid (V / 65536 ^ j = p25 / 65536 ^ j) ∧ wr.rowIs ga 31 16 (feF V) ∧ wr.rowIs gp 31 16 (feF p25) ∧ Below ga w wr) (fun i _ => ((intOf i) + 1).toNat)
  case atStart => exact ⟨16, Nat.le_refl _, rfl, Lib.hid h16, hA, hP, hB⟩
  case round =>
    clear hA hP hB h16
    obtain ⟨j, hj, rfl, HE, hA, hP, hB⟩ := hrel
    cases j with
    | zero =>
      have hEq : V = p25 := by have := HE.out; rwa [Nat.pow_zero, Nat.div_one, Nat.div_one] at this
      have hd : decide (V < p25) = false := by rw [hEq]; exact decide_eq_false (Nat.lt_irrefl _)
      have HD := Lib.hid hd
      clear hEq HE hd
      go_wp2
      go_ret
      exact ⟨by rw [HD.out]; rfl, by rw [HGA.out]; exact hB⟩
    | succ k =>
      have hk : k < 16 := by omega
      rw [show ((k + 1 : Nat) : Int) - 1 = (k : Int) by omega]
      have hcA : wr.cell? ⟨ga, k, none⟩ = some (.int .u64 ((dig V k : Nat) : Int)) := hA.cell hk
      have hcP : wr.cell? ⟨gp, k, none⟩ = some (.int .u64 ((dig p25 k : Nat) : Int)) := hP.cell hk
      have hk0 : 0 ≤ (k : Int) ∧ (k : Int) < 16 := by omega
      have hlA := dig_lt V k
      have hlP := dig_lt p25 k
      have hless := less_at V p25 k HE.out
      have hsame := same_at V p25 k HE.out
      have HL := Lib.hid hless
      have HS := Lib.hid hsame
      clear hless hsame HE
      by_cases he : dig V k = dig p25 k
      · have HN := Lib.hid (HS.out he)
        have heI : ((dig V k : Nat) : Int) = ((dig p25 k : Nat) : Int) := by rw [he]
        rw [heI] at hcA
        clear HL HS he heI
        generalize dig p25 k = x at *
        go_wp2
        go_region
        go_wp2
        go_roundw
        case rel => exact ⟨k, by omega, by go_num, HN, hA.drew, hP.drew, hB.drew⟩
        case measure => simp [intOf]
      · have hd : decide (V < p25) = decide (dig V k < dig p25 k) := by
          have h := HL.out he
          by_cases h2 : dig V k < dig p25 k
          · rw [decide_eq_true (h.1 h2), decide_eq_true (by omega)]
          · rw [decide_eq_false (fun h3 => h2 (h.2 h3)), decide_eq_false (by omega)]
        have HD := Lib.hid hd
        have hneI : ¬ ((dig V k : Nat) : Int) = ((dig p25 k : Nat) : Int) := by omega
        clear HL HS hd he
        generalize dig p25 k = x at *
        generalize dig V k = y at *
        go_wp2
        go_region
        go_wp2
        go_region
        go_wp2
        go_ret
        exact ⟨by rw [HD.out]; rfl, by rw [HGA.out]; exact hB.drew.drew⟩
end Go.Proofs.Ythapdohblphlgaa
