/- The document's numbers below L: Add. -/
import Derived.Test.YtncdlaidmiokiaaScD
namespace Go.Proofs.Ytncdlaidmiokiaa
open Go.RowKit Go.Deep
set_option linter.unusedSimpArgs false
set_option linter.unusedVariables false

theorem wpList_shrI8 {ops : Array Oper} {Q : Exit → Act → World → Prop} {a : Act} {w : World} {rest : List Oper} {o : Oper} {ty : TypeId} (hgd : o.guard = none) (x y : Operand) (ho : o.op = .binOp .shr 3 x y ty) {t q : Nat}
    (hx : a.eval x = .int .i64 (t : Int)) (hy : a.eval y = .int .u64 8) (hq : q = t / 256) (ht : t < 1000000000) (h : wpList Try.prog ops Q rest (a.put o.dst (.int .i64 (q : Int))) w) : wpList Try.prog ops Q (o :: rest) a w := by
  refine wpList_value hgd (.int .i64 (q : Int)) ?_ h
  have h1 : (t : Int) / 2 ^ 8 = (q : Int) := by omega
  have h2 : (t : Int) / 256 = (q : Int) := by omega
  have h3 : IntKind.i64.wrap (q : Int) = (q : Int) := IntWalk.i64_in _ (by omega)
  clear hq h
  rw [exec_mkOp, ho]
  simp only [execOp, mkOp, hx, hy]
  go_simp
/-- A number's n bytes, the greatest first. -/
def beN (V n : Nat) : List UInt8 := (litB V n).reverse
theorem beN_length (V n : Nat) : (beN V n).length = n := by unfold beN; rw [List.length_reverse, litB_length]
theorem beN_at (V n i : Nat) (h : i < (beN V n).length) : ((beN V n)[i]).toNat = byteN V (n - 1 - i) := by
  unfold beN at *
  rw [List.getElem_reverse, litB_at, UInt8.toNat_ofNat']
  have h2 : (litB V n).length = n := litB_length _ _
  unfold byteN
  rw [show (litB V n).length - 1 - i = n - 1 - i by omega]
theorem beN_exp (V n : Nat) : expB (beN V n) n = V % 256 ^ n := by
  rw [expB_rev n _ (beN_length V n)]
  unfold beN
  rw [List.reverse_reverse, numL_litB V n n (Nat.le_refl _)]
theorem run_make33 (w : World) : (Instr.makeSlice 22 (.int .i64 33) (.int .i64 33)).run Try.prog w = .ok (.slice (some ⟨w.heap.size, 0, none⟩) 33 33) (w.alloc (.cells (madeCells #[.int .u8 0] 33) 5)) := by kernel_rfl
theorem bF_bs {w : World} {b n V : Nat} {t : TypeId} (h : w.rowIs b t n (bF n V)) (hn : n ≤ 1000) : Bs w (.slice (some ⟨b, 0, none⟩) n n) (beN V n) :=
  Bs.of_part2 (off := 0) h (beN V n) (beN_length V n) (by omega) (by unfold maxLen; omega) fun i hi => by
    rw [beN_at]
    unfold bF
    rw [Nat.zero_add]
set_option maxHeartbeats 2000000 in
theorem refScAdd_any (A B : Nat) (w : World) (hA : A < ordL) (hB : B < ordL) : Calls Try.prog 15 #[.agg (arrOf 32 (bF 32 A)), .agg (arrOf 32 (bF 32 B))] w fun e w' => e = .returned (.agg (arrOf 32 (bF 32 ((A + B) % ordL)))) ∧ Below w.heap.size w w' := by
  obtain ⟨w4, hw4⟩ : ∃ w4, w4 = (((w.alloc (.cells (arrOf 32 (bF 32 A)) 30)).alloc (.cells (arrOf 32 (bF 32 B)) 30)).alloc (.cells (arrOf 32 fun _ => .int .u8 0) 30)).alloc (.cells (madeCells #[.int .u8 0] 33) 5) := ⟨_, rfl⟩
  have hrA : w4.rowIs w.heap.size 30 32 (bF 32 A) := by rw [hw4]; exact (((rowIs_arr w 32 (bF 32 A) _).alloc _).alloc _).alloc _
  have hrB : w4.rowIs (w.heap.size + 1) 30 32 (bF 32 B) := by
    rw [hw4]
    have h := rowIs_arr (w.alloc (.cells (arrOf 32 (bF 32 A)) 30)) 32 (bF 32 B) 30
    rw [World.size_alloc] at h
    exact (h.alloc _).alloc _
  have hrR : w4.rowIs (w.heap.size + 1 + 1) 30 32 (fun _ => .int .u8 0) := by
    rw [hw4]
    have h := rowIs_arr ((w.alloc (.cells (arrOf 32 (bF 32 A)) 30)).alloc (.cells (arrOf 32 (bF 32 B)) 30)) 32 (fun _ => .int .u8 0) 30
    rw [World.size_alloc, World.size_alloc] at h
    exact h.alloc _
  have hrC : w4.rowIs (w.heap.size + 1 + 1 + 1) 5 33 (fun _ => .int .u8 0) := by
    rw [hw4]
    have h := World.rowIs_made (((w.alloc (.cells (arrOf 32 (bF 32 A)) 30)).alloc (.cells (arrOf 32 (bF 32 B)) 30)).alloc (.cells (arrOf 32 fun _ => .int .u8 0) 30)) (.int .u8 0) 33 5
    rwa [World.size_alloc, World.size_alloc, World.size_alloc] at h
  have hbel : Below w.heap.size w w4 := by
    rw [hw4]
    exact ((((Below.refl _ _).alloc (Nat.le_refl _) _).alloc (by simp) _).alloc (by simp; omega) _).alloc (by simp; omega) _
  have hmk := run_make33
  have hs33 : A + B < 256 ^ 33 := Nat.lt_trans (show A + B < 2 * ordL by omega) two_L_lt
  have h32 : byteN (A + B) 32 = cyA A B 32 := by
    have h1 : A < 256 ^ 32 := Nat.lt_trans hA ordL_lt
    have h2 : B < 256 ^ 32 := Nat.lt_trans hB ordL_lt
    unfold byteN cyA
    rw [Nat.mod_eq_of_lt h1, Nat.mod_eq_of_lt h2]
    refine Nat.mod_eq_of_lt (Nat.lt_of_lt_of_le ?_ (show 2 ≤ 256 by decide))
    rw [Nat.div_lt_iff_lt_mul (pow256_pos 32)]
    omega
  have H32 := Lib.hid h32
  have HM := Lib.hid fun v w (h : Bs w v (beN (A + B) 33)) => refMod_any v (beN (A + B) 33) w h (by rw [beN_length]; omega)
  rw [beN_length, beN_exp, Nat.mod_eq_of_lt hs33] at HM
  clear hA hB hs33 h32
  go_enter Try.func15, Try.ntmps15
  go_wp2_with (refine wpList_alloc_arr rfl 30 rfl (arrOf 32 fun _ => .int .u8 0) zeroSc ?_)
  rw [← hw4]
  clear hw4 hmk
  generalize hg0 : w.heap.size = g0 at *
  generalize hg1 : g0 + 1 = g1 at *
  generalize hg2 : g1 + 1 = g2 at *
  generalize hg3 : g2 + 1 = g3 at *
  have n03 : g0 ≠ g3 := by omega
  have n13 : g1 ≠ g3 := by omega
  have n23 : g2 ≠ g3 := by omega
  have l2 : g0 ≤ g2 := by omega
  have l3 : g0 ≤ g3 := by omega
  have HG := Lib.hid hg0
  have HGS : Hid (∀ wq : World, Below g0 w wq → g0 ≤ wq.heap.size) := Lib.hid fun wq h => by rw [← HG.out]; exact h.size
  clear hg0 hg1 hg2 hg3
  have hrC' := hrC.congr (g := fun i => if 32 - i < 0 then bF 33 (A + B) i else .int .u8 0) fun i _ => by rw [if_neg (Nat.not_lt_zero _)]
  clear hrC
  go_loopw [6, 7] (fun cc jj wr => ∃ p c : Nat, p ≤ 32 ∧ Hid (c = cyA A B p) ∧ cc = .int .i64 (c : Int) ∧ jj = .int .i64 (31 - (p : Int)) ∧ wr.rowIs g3 5 33 (fun i => if 32 - i < p then bF 33 (A + B) i else .int .u8 0) ∧ wr.rowIs g0 30 32 (bF 32 A) ∧ wr.rowIs g1 30 32 (bF 32 B) ∧ wr.rowIs g2 30 32 (fun _ => .int .u8 0) ∧ Below g0 w wr) (fun _ jj _ => ((intOf jj) + 1).toNat)
  case atStart => exact ⟨0, 0, Nat.zero_le _, Lib.hid (cyA_zero A B).symm, rfl, rfl, hrC', hrA, hrB, hrR, hbel⟩
  case round =>
    clear hrC' hrA hrB hrR hbel
    obtain ⟨p, c, hp, HC, rfl, rfl, hrC, hrA, hrB, hrR, hbel⟩ := hrel
    by_cases hp32 : p < 32
    · obtain ⟨j, hj⟩ := nat_var (31 - p)
      rw [show 31 - (p : Int) = (j : Int) by omega]
      have HJ := Lib.hid hj
      have hjI : 0 ≤ (j : Int) ∧ (j : Int) < 32 := by omega
      have hcA := hrA.cell (i := j) (by omega)
      have hcB := hrB.cell (i := j) (by omega)
      unfold bF at hcA hcB
      rw [show 32 - 1 - j = p by omega] at hcA hcB
      have hcs := cyA_step A B p
      have hcle := cyA_le A B p
      have hcl2 := cyA_le A B (p + 1)
      have hsl := byteN_lt (A + B) p
      rw [← HC.out] at hcs hcle
      obtain ⟨a, ha⟩ := nat_var (byteN A p)
      have hal : a < 256 := by rw [ha]; exact byteN_lt A p
      obtain ⟨b, hb⟩ := nat_var (byteN B p)
      have hbl : b < 256 := by rw [hb]; exact byteN_lt B p
      rw [← ha] at hcA hcs
      rw [← hb] at hcB hcs
      obtain ⟨v, hv⟩ := nat_var (a + b + c)
      obtain ⟨z, hz⟩ := nat_var (v % 256)
      obtain ⟨q, hq⟩ := nat_var (v / 256)
      obtain ⟨ab, hab⟩ := nat_var (a + b)
      have hz2 : z = byteN (A + B) p := by omega
      have hq2 : q = cyA A B (p + 1) := by omega
      have HQ2 := Lib.hid hq2
      have hwa : IntKind.i64.wrap (a : Int) = (a : Int) := IntWalk.i64_in _ (by omega)
      have hwb : IntKind.i64.wrap (b : Int) = (b : Int) := IntWalk.i64_in _ (by omega)
      have hwab : IntKind.i64.wrap ((a : Int) + (b : Int)) = (ab : Int) := by rw [IntWalk.i64_in _ (by omega)]; omega
      have hwv : IntKind.i64.wrap ((ab : Int) + (c : Int)) = (v : Int) := by rw [IntWalk.i64_in _ (by omega)]; omega
      have hwz : IntKind.u8.wrap (v : Int) = (z : Int) := by rw [IntKind.wrap_u8]; omega
      obtain ⟨j1, hj1⟩ := nat_var (j + 1)
      have hwj1 : IntKind.i64.wrap ((j : Int) + 1) = (j1 : Int) := by rw [IntWalk.i64_in _ (by omega)]; omega
      have hj1I : 0 ≤ (j1 : Int) ∧ (j1 : Int) < 33 := by omega
      have hwj : IntKind.i64.wrap ((j : Int) - 1) = (j : Int) - 1 := IntWalk.i64_in _ (by omega)
      have hfr := hrC.frozen j1
      have hcC := hrC.cell (i := j1) (by omega)
      rw [if_neg (by omega)] at hcC
      have hset : (wr.drew.setCell ⟨g3, j1, none⟩ (.int .u8 (z : Int))).rowIs g3 5 33 (fun i => if 32 - i < p + 1 then bF 33 (A + B) i else .int .u8 0) := (hrC.drew.set j1 _).congr fun i hi => by
        show (if i = j1 then _ else _) = _
        by_cases e : i = j1
        · rw [if_pos e, if_pos (by omega)]
          unfold bF
          rw [show 33 - 1 - i = p by omega, ← hz2]
        · rw [if_neg e]
          by_cases e2 : 32 - i < p
          · rw [if_pos e2, if_pos (by omega)]
          · rw [if_neg e2, if_neg (by omega)]
      have kA := gb_rowIs hrA.drew (grownBy_set _ g3 j1 (.int .u8 (z : Int))) n03
      have kB := gb_rowIs hrB.drew (grownBy_set _ g3 j1 (.int .u8 (z : Int))) n13
      have kR := gb_rowIs hrR.drew (grownBy_set _ g3 j1 (.int .u8 (z : Int))) n23
      have kb := hbel.drew.setCell (p := ⟨g3, j1, none⟩) l3 (.int .u8 (z : Int))
      have HQ := Lib.hid hq
      have HVL : Hid (v < 1000000000) := Lib.hid (by omega)
      clear hj ha hb hv hz hq hab hz2 hq2 hcs hcle hcl2 hsl hal hbl hj1 hrC hrA hrB hrR hbel
      go_wp2
      go_region
      go_wp2_with (refine wpList_shrI8 rfl (.tmp 31) (.const (.int .u64 8)) rfl rfl rfl HQ.out HVL.out ?_)
      go_roundw
      case rel => exact ⟨p + 1, q, by omega, HQ2, rfl, by have := HJ.out; go_num, hset, kA, kB, kR, kb⟩
      case measure => (have := HJ.out; simp [intOf]; try omega)
    · obtain rfl : p = 32 := by omega
      have hcle := cyA_le A B 32
      rw [← HC.out] at hcle
      have hwc : IntKind.u8.wrap (c : Int) = (c : Int) := IntWalk.u8_in _ ⟨by omega, by omega⟩
      have hfr := hrC.frozen 0
      have hcC := hrC.cell (i := 0) (by omega)
      rw [if_neg (by omega)] at hcC
      have hset : (wr.setCell ⟨g3, 0, none⟩ (.int .u8 (c : Int))).rowIs g3 5 33 (bF 33 (A + B)) := (hrC.set 0 _).congr fun i hi => by
        show (if i = 0 then _ else _) = _
        by_cases e : i = 0
        · subst e
          rw [if_pos rfl]
          unfold bF
          rw [show 33 - 1 - 0 = 32 from rfl, H32.out, ← HC.out]
        · rw [if_neg e, if_pos (by omega)]
      have hBs := bF_bs hset (by omega)
      have kR := gb_rowIs hrR (grownBy_set _ g3 0 (.int .u8 (c : Int))) n23
      have kb := hbel.setCell (p := ⟨g3, 0, none⟩) l3 (.int .u8 (c : Int))
      clear hrC hrA hrB hrR hbel hset hcle
      go_wp2_with (first
        | (go_at_call 28; refine (HM.out _ _ hBs).mono ?_; rintro e w5 ⟨rfl, hb5⟩
           have kR5 := kR.of_block (hb5.block _ kR.lt)
           have kb5 := kb.trans (hb5.mono (HGS.out _ kb))
           clear kR kb hb5 hBs)
        | (refine wpList_store_arr rfl 30 (.tmp 4) (.tmp 38) rfl 32 arrSc kR5 rfl rfl (by omega) (fun _ _ => rfl) ?_; intro wd hrd hgd hsd))
      refine ret_cell_arr rfl arrSc hrd rfl (by omega) rfl ⟨?_, by rw [HG.out]; exact kb5.grown hgd (HGS.out _ kb5) (by intro k hk; cases hk; exact l2)⟩
      refine congrArg (fun x => Ending.returned (.agg x)) (arrOf_congr fun i hi => ?_)
      unfold putN
      rw [if_pos (by omega), Nat.zero_add, Nat.sub_zero]
end Go.Proofs.Ytncdlaidmiokiaa
