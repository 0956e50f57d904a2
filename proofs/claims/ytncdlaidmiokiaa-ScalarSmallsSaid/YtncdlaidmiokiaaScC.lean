/- The document's mod L. -/
import Derived.Test.YtncdlaidmiokiaaScM
import Derived.Test.YtncdlaidmiokiaaBits8
namespace Go.Proofs.Ytncdlaidmiokiaa
open Go.RowKit Go.Deep
set_option linter.unusedSimpArgs false
set_option linter.unusedVariables false

theorem bF_zero (n i : Nat) : bF n 0 i = .int .u8 0 := by
  unfold bF byteN
  rw [Nat.zero_div, Nat.zero_mod]
  rfl
theorem exec_sliceFromArr {P : Program} {w : World} (ρ : Operand → Value) (ty elem : TypeId) (x lo : Operand) (t : TypeId) {b off n : Nat} (j m off' : Nat) {k : IntKind} (hu : P.underlying ty = some (.array n elem)) (hi : (P.info? elem).map (fun i => i.size) = some 1)
    (hx : ρ x = .pointer (some ⟨b, off, none⟩)) (hlo : ρ lo = .int k (j : Int)) (hj : j < n) (hm : m = n - j) (ho : off' = off + j) :
    (execOp ρ (mkOp (.slice ty x (some lo) none none) t)).run P w = .ok (.value (.slice (some ⟨b, off', none⟩) m m)) w := by
  subst hm ho
  have hrun := run_sliceFrom_arr (P := P) w ty elem n b off j k hu hi hj
  simp [execOp, mkOp, hx, hlo, hrun, Result.andThen]
theorem Bs.of_part2 {w : World} {b m off n : Nat} {t : TypeId} {f : Nat → Value} (h : w.rowIs b t m f) (l : List UInt8) (hn : l.length = n) (hm : off + n ≤ m) (hcm : n ≤ maxLen)
    (hf : ∀ i (hi : i < l.length), f (off + i) = .int .u8 ((l[i]).toNat : Int)) : Bs w (.slice (some ⟨b, off, none⟩) n n) l := by
  subst hn
  refine ⟨_, _, rfl, Nat.le_refl _, hcm, (fun h => by cases h), fun x hx i hi => ?_⟩
  cases hx
  refine ⟨h.lt, ?_⟩
  have h2 := h.cell (i := off + i) (by omega)
  rw [hf i hi] at h2
  rw [add_eq]
  exact h2
/-- A number's 32 bytes, the greatest first. -/
def beL (V : Nat) : List UInt8 := (litB V 32).reverse
theorem beL_length (V : Nat) : (beL V).length = 32 := by unfold beL; rw [List.length_reverse, litB_length]
theorem beL_at (V i : Nat) (h : i < (beL V).length) : ((beL V)[i]).toNat = byteN V (31 - i) := by
  unfold beL at *
  rw [List.getElem_reverse, litB_at, UInt8.toNat_ofNat']
  have h2 : (litB V 32).length = 32 := litB_length _ _
  unfold byteN
  rw [show (litB V 32).length - 1 - i = 31 - i by omega]
theorem beL_getD (V i : Nat) (h : i < 32) : ((beL V).getD i 0).toNat = byteN V (31 - i) := by
  rw [getD_at _ i (by rw [beL_length]; exact h)]
  exact beL_at V i _
set_option maxHeartbeats 4000000 in
theorem refMod_any (v : Value) (l : List UInt8) (w : World) (hv : Bs w v l) (hl : l.length ≤ 1000) :
    Calls Try.prog 28 #[v] w fun e w' => e = .returned (.agg (arrOf 32 (bF 32 (expB l l.length % ordL)))) ∧ Below w.heap.size w w' := by
  obtain ⟨a, n, cap, rfl, hn, hc1, hc2, hB0⟩ := hv.shape
  have HV := Lib.hid hB0
  have HN := Lib.hid hn
  have hnl : n ≤ 1000 := by omega
  have hr2 := ((rowIs_arr w 32 (fun _ => .int .u8 0) 30).alloc (.cells (arrOf 33 fun _ => .int .u8 0) 70))
  have hr3 := rowIs_arr (w.alloc (.cells (arrOf 32 fun _ => .int .u8 0) 30)) 33 (fun _ => .int .u8 0) 70
  have hb0 := ((Below.refl w.heap.size w).alloc (Nat.le_refl _) (.cells (arrOf 32 fun _ => .int .u8 0) 30)).alloc (by simp) (.cells (arrOf 33 fun _ => .int .u8 0) 70)
  rw [World.size_alloc] at hr3
  clear hv hB0
  go_enter Try.func28, Try.ntmps28
  go_wp2_with (first
    | refine wpList_alloc_arr rfl 30 rfl (arrOf 32 fun _ => .int .u8 0) zeroSc ?_
    | refine wpList_alloc_arr rfl 70 rfl (arrOf 33 fun _ => .int .u8 0) zeroB33 ?_
    | (go_at_call 38; refine (refOrder_any _).mono ?_; rintro e w1 ⟨rfl, hl1, hb1⟩
       have h2 := hr2.of_block (hb1.block _ hr2.lt)
       have h3 := hr3.of_block (hb1.block _ hr3.lt)
       have hB := hb0.trans (hb1.mono hb0.size)
       clear hr2 hr3 hb0 hb1))
  rw [World.size_alloc, World.size_alloc] at hl1
  generalize hg0 : w.heap.size = g2 at *
  generalize hgl : g2 + 1 + 1 = gl at *
  generalize hg3 : g2 + 1 = g3 at *
  have n23 : g2 ≠ g3 := by omega
  have n2l : g2 ≠ gl := by omega
  have n3l : gl ≠ g3 := by omega
  have l3 : g2 ≤ g3 := by omega
  have HG := Lib.hid hg0
  have HGS : Hid (∀ wq : World, Below g2 w wq → g2 ≤ wq.heap.size) := Lib.hid fun wq h => by rw [← HG.out]; exact h.size
  clear hg0 hgl hg3 hn
  have h3' : w1.rowIs g3 70 33 (bF 33 (expB l 0 % ordL)) := h3.congr fun i _ => by
    rw [show expB l 0 % ordL = 0 from Nat.zero_mod _, bF_zero]
  clear h3
  go_loopw [5] (fun ii wr => ∃ i : Nat, i ≤ n ∧ ii = .int .i64 (i : Int) ∧ wr.rowIs g3 70 33 (bF 33 (expB l i % ordL)) ∧ wr.rowIs g2 30 32 (fun _ => .int .u8 0) ∧ wr.rowIs gl 5 32 (bF 32 ordL) ∧ Below g2 w wr) (fun ii _ => n - (intOf ii).toNat)
  case atStart => exact ⟨0, Nat.zero_le _, rfl, h3', h2, hl1, hB⟩
  case round =>
    clear h3' h2 hl1 hB
    obtain ⟨i, hi, rfl, h3, h2, hL, hB⟩ := hrel
    by_cases hlt : i < n
    · have hiI : 0 ≤ (i : Int) ∧ (i : Int) < (n : Int) := by omega
      go_wp2
      go_loopw [6] (fun kk wq => ∃ m : Nat, m ≤ 8 ∧ kk = .int .i64 ((m : Int) - 1) ∧ wq.rowIs g3 70 33 (bF 33 ((expB l i * 2 ^ (8 - m) + (l.getD i 0).toNat / 2 ^ m) % ordL)) ∧ wq.rowIs g2 30 32 (fun _ => .int .u8 0) ∧ wq.rowIs gl 5 32 (bF 32 ordL) ∧ Below g2 w wq) (fun kk _ => ((intOf kk) + 1).toNat)
      case atStart => exact ⟨8, Nat.le_refl _, rfl, by rw [expB_start]; exact h3, h2, hL, hB⟩
      case round =>
        clear h3 h2 hL hB
        obtain ⟨m, hm, rfl, h3, h2, hL, hB⟩ := hrel
        cases m with
        | zero =>
          rw [expB_end] at h3
          go_wp2
          go_roundw
          case rel => exact ⟨i + 1, by omega, by go_num, h3, h2, hL, hB⟩
          case measure => (simp [intOf]; try omega)
        | succ k =>
          have hk : k < 8 := by omega
          rw [show ((k + 1 : Nat) : Int) - 1 = (k : Int) by omega]
          have hk0 : 0 ≤ (k : Int) := by omega
          obtain ⟨b, off, cap', he, _, _, hbl, hc⟩ := HV.out.open_n HN.out (by omega)
          cases he
          have hiE : i < l.length := by rw [HN.out]; exact hlt
          have hci := hc i hiE
          rw [← getD_at l i hiE] at hci
          have hci2 := (hB.cell (p := ⟨b, off + i, none⟩) (by rw [← HG.out]; exact hbl)).trans hci
          obtain ⟨x, hx⟩ := nat_var ((l.getD i 0).toNat)
          have hx1 : x < 256 := by rw [hx]; exact UInt8.toNat_lt _
          rw [← hx] at hci2 h3
          have hstep := expB_step (expB l i) x k hk
          obtain ⟨T, hT⟩ := nat_var (expB l i * 2 ^ (8 - (k + 1)) + x / 2 ^ (k + 1))
          rw [← hT] at h3 hstep
          obtain ⟨y, hy⟩ := nat_var (x / 2 ^ k)
          have hyl : y < 256 := by rw [hy]; exact Nat.lt_of_le_of_lt (Nat.div_le_self _ _) hx1
          rw [← hy] at hstep
          obtain ⟨c0, hc0⟩ := nat_var (y % 2)
          have hc1 : c0 ≤ 1 := by omega
          rw [← hc0] at hstep
          have hdm := double_mod T c0
          obtain ⟨R, hR⟩ := nat_var (T % ordL)
          have hRL : R < ordL := by rw [hR]; exact Nat.mod_lt _ ordL_pos
          rw [← hR] at h3 hdm
          obtain ⟨D, hD⟩ := nat_var (2 * R + c0)
          have hDL : D < 2 * ordL := by rw [hD]; exact double_lt hRL hc1
          rw [← hD] at hdm
          have HST : Hid ((expB l i * 2 ^ (8 - k) + (l.getD i 0).toNat / 2 ^ k) % ordL = D % ordL) := Lib.hid (by rw [hdm, ← hstep, hy, hx])
          have HD := Lib.hid hD
          have HDL := Lib.hid hDL
          have HC1 := Lib.hid hc1
          have HC0 := Lib.hid hc0
          have HY := Lib.hid hy
          have HYL := Lib.hid hyl
          have HXL := Lib.hid hx1
          have HK := Lib.hid hk
          have hwk : IntKind.i64.wrap ((k : Int) - 1) = (k : Int) - 1 := IntWalk.i64_in _ (by omega)
          clear hc hci hx hT hstep hy hyl hc0 hc1 hdm hR hRL hD hDL hx1 hiE
          go_wp2_with (first
            | refine wpList_shr8 rfl (.tmp 29) (.tmp 30) rfl rfl rfl HY.out HK.out HXL.out ?_
            | refine wpList_and1 rfl (.tmp 31) (.const (.int .u8 1)) rfl rfl rfl HC0.out HYL.out ?_)
          have h3' := h3.congr (g := fun i => if 32 - i < 0 then bF 33 D i else bF 33 R i) fun i _ => by rw [if_neg (Nat.not_lt_zero _)]
          go_loopw [7, 8] (fun cc jj wz => ∃ p c : Nat, p ≤ 33 ∧ Hid (c = cyD R c0 p) ∧ cc = .int .u8 (c : Int) ∧ jj = .int .i64 (32 - (p : Int)) ∧ wz.rowIs g3 70 33 (fun i => if 32 - i < p then bF 33 D i else bF 33 R i) ∧ wz.rowIs g2 30 32 (fun _ => .int .u8 0) ∧ wz.rowIs gl 5 32 (bF 32 ordL) ∧ Below g2 w wz) (fun _ jj _ => ((intOf jj) + 1).toNat)
          case atStart => exact ⟨0, c0, Nat.zero_le _, Lib.hid (cyD_zero R c0).symm, rfl, rfl, h3', h2, hL, hB⟩
          case round =>
            clear h3' h3 h2 hL hB hci2
            obtain ⟨p, c, hp, HC, rfl, rfl, h3, h2, hL, hB⟩ := hrel
            by_cases hp33 : p < 33
            · obtain ⟨j, hj⟩ := nat_var (32 - p)
              rw [show 32 - (p : Int) = (j : Int) by omega]
              have HJ := Lib.hid hj
              have hjI : 0 ≤ (j : Int) ∧ (j : Int) < 33 := by omega
              have hcell := h3.cell (i := j) (by omega)
              rw [if_neg (by omega)] at hcell
              unfold bF at hcell
              rw [show 33 - 1 - j = p by omega] at hcell
              have hfr := h3.frozen j
              have hcy := cyD_step R c0 p
              have hcl := cyD_le R c0 p HC1.out
              rw [← HC.out, ← HD.out] at hcy
              rw [← HC.out] at hcl
              obtain ⟨t, ht⟩ := nat_var (byteN R p)
              have htl : t < 256 := by rw [ht]; exact byteN_lt R p
              rw [← ht] at hcell hcy
              obtain ⟨q, hq⟩ := nat_var (t / 128)
              obtain ⟨s, hs⟩ := nat_var (2 * t % 256)
              obtain ⟨z, hz⟩ := nat_var (s + c)
              have hq2 : q = cyD R c0 (p + 1) := by rw [← hcy.2]; omega
              have hz2 : z = byteN D p := by rw [← hcy.1]; omega
              have hset : (wr.setCell ⟨g3, j, none⟩ (.int .u8 (z : Int))).rowIs g3 70 33 (fun i => if 32 - i < p + 1 then bF 33 D i else bF 33 R i) := (h3.set j _).congr fun i hi => by
                show (if i = j then _ else _) = _
                by_cases e : i = j
                · subst e
                  rw [if_pos rfl, if_pos (by omega)]
                  unfold bF
                  rw [show 33 - 1 - i = p by omega, ← hz2]
                · rw [if_neg e]
                  by_cases e2 : 32 - i < p
                  · rw [if_pos e2, if_pos (by omega)]
                  · rw [if_neg e2, if_neg (by omega)]
              have h2' := gb_rowIs h2 (grownBy_set _ g3 j (.int .u8 (z : Int))) n23
              have hL' := gb_rowIs hL (grownBy_set _ g3 j (.int .u8 (z : Int))) n3l
              have hB' := hB.setCell (p := ⟨g3, j, none⟩) l3 (.int .u8 (z : Int))
              have HQ := Lib.hid hq
              have HS := Lib.hid hs
              have HZ := Lib.hid hz
              have HTL := Lib.hid htl
              have HSL : Hid (s < 256) := Lib.hid (by omega)
              have HS2 : Hid (s % 2 = 0) := Lib.hid (by omega)
              have HCL := Lib.hid hcl
              have HQ2 := Lib.hid hq2
              have hwj : IntKind.i64.wrap ((j : Int) - 1) = (j : Int) - 1 := IntWalk.i64_in _ (by omega)
              clear hj hcy hcl ht htl hq hs hz hq2 hz2 h3 h2 hL hB
              go_wp2_with (first
                | refine wpList_shr7 rfl (.tmp 39) (.const (.int .u64 7)) rfl rfl rfl HQ.out HTL.out ?_
                | refine wpList_shl1 rfl (.tmp 44) (.const (.int .u64 1)) rfl rfl rfl HS.out ?_
                | refine wpList_or1 rfl (.tmp 45) (.tmp 46) rfl rfl rfl HSL.out HS2.out HCL.out HZ.out ?_)
              go_roundw
              case rel => exact ⟨p + 1, q, by omega, HQ2, rfl, by have := HJ.out; go_num, hset, h2', hL', hB'⟩
              case measure => (simp [intOf]; try omega)
            · obtain rfl : p = 33 := by omega
              have hD3 := h3.congr (g := bF 33 D) fun i hi => by rw [if_pos (by omega)]
              clear h3
              have hwk2 := hwk
              by_cases hge : ordL ≤ D
              · have HAB : Hid (∀ w, Calls Try.prog 40 #[.agg (arrOf 33 (bF 33 D))] w fun e w' => e = .returned (.bool true) ∧ Below w.heap.size w w') := Lib.hid fun w => by
                  have h := refAbove_any D w (Nat.lt_trans HDL.out two_L_lt)
                  rwa [decide_eq_true hge] at h
                obtain ⟨G, hG⟩ := nat_var (D - ordL)
                have HDG : Hid (D = G + ordL) := Lib.hid (by omega)
                have HGM : Hid (G = D % ordL) := Lib.hid (by rw [hG]; exact sub_mod_L hge HDL.out)
                clear hge hG HD
                go_wp2_with (first
                  | (refine wpList_load_arr rfl 70 (.tmp 3) rfl 33 arrB33 hD3 rfl (by omega) ?_; simp only [Nat.zero_add])
                  | (go_at_call 40; refine (HAB.out _).mono ?_; rintro e wA ⟨rfl, hbA⟩
                     have k3 := hD3.of_block (hbA.block _ hD3.lt)
                     have k2 := h2.of_block (hbA.block _ h2.lt)
                     have kL := hL.of_block (hbA.block _ hL.lt)
                     have kB := hB.trans (hbA.mono (HGS.out _ hB))
                     clear hD3 h2 hL hB hbA))
                have k3' := k3.congr (g := fun i => if 32 - i < 0 then bF 33 G i else bF 33 D i) fun i _ => by rw [if_neg (Nat.not_lt_zero _)]
                go_loopw [10, 11] (fun bb jj wz => ∃ p c : Nat, p ≤ 33 ∧ Hid (c = cyA G ordL p) ∧ bb = .int .i64 (c : Int) ∧ jj = .int .i64 (32 - (p : Int)) ∧ wz.rowIs g3 70 33 (fun i => if 32 - i < p then bF 33 G i else bF 33 D i) ∧ wz.rowIs g2 30 32 (fun _ => .int .u8 0) ∧ wz.rowIs gl 5 32 (bF 32 ordL) ∧ Below g2 w wz) (fun _ jj _ => ((intOf jj) + 1).toNat)
                case atStart => exact ⟨0, 0, Nat.zero_le _, Lib.hid (cyA_zero G ordL).symm, rfl, rfl, k3', k2, kL, kB⟩
                case round =>
                  clear k3' k3 k2 kL kB hp33 hp
                  obtain ⟨p, c, hp, HC, rfl, rfl, h3, h2, hL, hB⟩ := hrel
                  by_cases hp33 : p < 33
                  · obtain ⟨j, hj⟩ := nat_var (32 - p)
                    rw [show 32 - (p : Int) = (j : Int) by omega]
                    have HJ := Lib.hid hj
                    have hjI : 0 ≤ (j : Int) ∧ (j : Int) < 33 := by omega
                    have hcell := h3.cell (i := j) (by omega)
                    rw [if_neg (by omega)] at hcell
                    unfold bF at hcell
                    rw [show 33 - 1 - j = p by omega] at hcell
                    have hfr := h3.frozen j
                    have hcs := cyA_step G ordL p
                    have hcle := cyA_le G ordL p
                    have hn2 := cyA_le G ordL (p + 1)
                    rw [← HDG.out, ← HC.out] at hcs
                    rw [← HC.out] at hcle
                    obtain ⟨d, hd⟩ := nat_var (byteN D p)
                    have hdl : d < 256 := by rw [hd]; exact byteN_lt D p
                    rw [← hd] at hcell hcs
                    obtain ⟨g, hg⟩ := nat_var (byteN G p)
                    have hgl : g < 256 := by rw [hg]; exact byteN_lt G p
                    rw [← hg] at hcs
                    obtain ⟨xl, hxl⟩ := nat_var (byteN ordL p)
                    have hxll : xl < 256 := by rw [hxl]; exact byteN_lt ordL p
                    rw [← hxl] at hcs
                    have hset : (wr.setCell ⟨g3, j, none⟩ (.int .u8 (g : Int))).rowIs g3 70 33 (fun i => if 32 - i < p + 1 then bF 33 G i else bF 33 D i) := (h3.set j _).congr fun i hi => by
                      show (if i = j then _ else _) = _
                      by_cases e : i = j
                      · subst e
                        rw [if_pos rfl, if_pos (by omega)]
                        unfold bF
                        rw [show 33 - 1 - i = p by omega, ← hg]
                      · rw [if_neg e]
                        by_cases e2 : 32 - i < p
                        · rw [if_pos e2, if_pos (by omega)]
                        · rw [if_neg e2, if_neg (by omega)]
                    have h2' := gb_rowIs h2 (grownBy_set _ g3 j (.int .u8 (g : Int))) n23
                    have hL' := gb_rowIs hL (grownBy_set _ g3 j (.int .u8 (g : Int))) n3l
                    have hB' := hB.setCell (p := ⟨g3, j, none⟩) l3 (.int .u8 (g : Int))
                    have hwd : IntKind.i64.wrap (d : Int) = (d : Int) := IntWalk.i64_in _ (by omega)
                    have hwg : IntKind.u8.wrap (g : Int) = (g : Int) := IntWalk.u8_in _ ⟨by omega, by omega⟩
                    have hwj : IntKind.i64.wrap ((j : Int) - 1) = (j : Int) - 1 := IntWalk.i64_in _ (by omega)
                    by_cases hbr : cyA G ordL (p + 1) = 0
                    · have HA : Hid (0 = cyA G ordL (p + 1)) := Lib.hid hbr.symm
                      rw [hbr] at hcs hn2
                      clear hbr h3
                      by_cases hp32 : p < 32
                      · clear hwj
                        have hcl := hL.cell (i := j - 1) (by omega)
                        unfold bF at hcl
                        rw [show 32 - 1 - (j - 1) = p by omega, ← hxl] at hcl
                        obtain ⟨j1, hj1⟩ := nat_var (j - 1)
                        rw [← hj1] at hcl
                        have HJ1 := Lib.hid hj1
                        have hwj1 : IntKind.i64.wrap ((j : Int) - 1) = (j1 : Int) := by rw [IntWalk.i64_in _ (by omega)]; omega
                        have hj1I : 0 ≤ (j1 : Int) ∧ (j1 : Int) < 32 := by omega
                        have hjp : 0 < (j : Int) := by omega
                        have hwx : IntKind.i64.wrap (xl : Int) = (xl : Int) := IntWalk.i64_in _ (by omega)
                        obtain ⟨u1, hu1⟩ : ∃ u1 : Int, u1 = (d : Int) - (xl : Int) := ⟨_, rfl⟩
                        have hv1 : IntKind.i64.wrap ((d : Int) - (xl : Int)) = u1 := by rw [← hu1]; exact IntWalk.i64_in _ (by omega)
                        have hv2 : IntKind.i64.wrap (u1 - (c : Int)) = (g : Int) := by rw [IntWalk.i64_in _ (by omega)]; omega
                        have hneg : ¬ (g : Int) < 0 := by omega
                        clear hd hg hxl hcs hj hdl hgl hxll hcle hn2 hj1 hu1
                        go_wp2
                        go_roundw
                        case rel => exact ⟨p + 1, 0, by omega, HA, rfl, by have := HJ.out; have := HJ1.out; go_num, hset, h2', hL', hB'⟩
                        case measure => (have := HJ.out; have := HJ1.out; simp [intOf]; try omega)
                      · skip
                        have hjp : ¬ 0 < (j : Int) := by omega
                        have hxz : xl = 0 := by rw [hxl, show p = 32 by omega]; decide +kernel
                        have hv2 : IntKind.i64.wrap ((d : Int) - (c : Int)) = (g : Int) := by rw [IntWalk.i64_in _ (by omega)]; omega
                        have hneg : ¬ (g : Int) < 0 := by omega
                        clear hd hg hxl hcs hj hdl hgl hxll hcle hn2 hxz
                        go_wp2
                        go_roundw
                        case rel => exact ⟨p + 1, 0, by omega, HA, rfl, by have := HJ.out; go_num, hset, h2', hL', hB'⟩
                        case measure => (have := HJ.out; simp [intOf]; try omega)
                    · have hbr1 : cyA G ordL (p + 1) = 1 := by omega
                      have HA : Hid (1 = cyA G ordL (p + 1)) := Lib.hid hbr1.symm
                      rw [hbr1] at hcs hn2
                      clear hbr hbr1 h3
                      by_cases hp32 : p < 32
                      · clear hwj
                        have hcl := hL.cell (i := j - 1) (by omega)
                        unfold bF at hcl
                        rw [show 32 - 1 - (j - 1) = p by omega, ← hxl] at hcl
                        obtain ⟨j1, hj1⟩ := nat_var (j - 1)
                        rw [← hj1] at hcl
                        have HJ1 := Lib.hid hj1
                        have hwj1 : IntKind.i64.wrap ((j : Int) - 1) = (j1 : Int) := by rw [IntWalk.i64_in _ (by omega)]; omega
                        have hj1I : 0 ≤ (j1 : Int) ∧ (j1 : Int) < 32 := by omega
                        have hjp : 0 < (j : Int) := by omega
                        have hwx : IntKind.i64.wrap (xl : Int) = (xl : Int) := IntWalk.i64_in _ (by omega)
                        obtain ⟨u1, hu1⟩ : ∃ u1 : Int, u1 = (d : Int) - (xl : Int) := ⟨_, rfl⟩
                        have hv1 : IntKind.i64.wrap ((d : Int) - (xl : Int)) = u1 := by rw [← hu1]; exact IntWalk.i64_in _ (by omega)
                        have hv2 : IntKind.i64.wrap (u1 - (c : Int)) = (g : Int) - 256 := by rw [IntWalk.i64_in _ (by omega)]; omega
                        obtain ⟨u2, hu2⟩ : ∃ u2 : Int, u2 = (g : Int) - 256 := ⟨_, rfl⟩
                        have hneg : u2 < 0 := by omega
                        have hv3 : IntKind.i64.wrap (u2 + 256) = (g : Int) := by rw [IntWalk.i64_in _ (by omega)]; omega
                        rw [← hu2] at hv2
                        clear hd hg hxl hcs hj hdl hgl hxll hcle hn2 hj1 hu1 hu2
                        go_wp2
                        go_roundw
                        case rel => exact ⟨p + 1, 1, by omega, HA, rfl, by have := HJ.out; have := HJ1.out; go_num, hset, h2', hL', hB'⟩
                        case measure => (have := HJ.out; have := HJ1.out; simp [intOf]; try omega)
                      · skip
                        have hjp : ¬ 0 < (j : Int) := by omega
                        have hxz : xl = 0 := by rw [hxl, show p = 32 by omega]; decide +kernel
                        have hv2 : IntKind.i64.wrap ((d : Int) - (c : Int)) = (g : Int) - 256 := by rw [IntWalk.i64_in _ (by omega)]; omega
                        obtain ⟨u2, hu2⟩ : ∃ u2 : Int, u2 = (g : Int) - 256 := ⟨_, rfl⟩
                        have hneg : u2 < 0 := by omega
                        have hv3 : IntKind.i64.wrap (u2 + 256) = (g : Int) := by rw [IntWalk.i64_in _ (by omega)]; omega
                        rw [← hu2] at hv2
                        clear hd hg hxl hcs hj hdl hgl hxll hcle hn2 hxz hu2
                        go_wp2
                        go_roundw
                        case rel => exact ⟨p + 1, 1, by omega, HA, rfl, by have := HJ.out; go_num, hset, h2', hL', hB'⟩
                        case measure => (have := HJ.out; simp [intOf]; try omega)
                  · obtain rfl : p = 33 := by omega
                    have hG3 := h3.congr (g := bF 33 G) fun i hi => by rw [if_pos (by omega)]
                    clear h3
                    go_wp2
                    go_roundw
                    case rel => exact ⟨k, by omega, rfl, by rw [HST.out, ← HGM.out]; exact hG3, h2, hL, hB⟩
                    case measure => (simp [intOf]; try omega)
              · have HAB : Hid (∀ w, Calls Try.prog 40 #[.agg (arrOf 33 (bF 33 D))] w fun e w' => e = .returned (.bool false) ∧ Below w.heap.size w w') := Lib.hid fun w => by
                  have h := refAbove_any D w (Nat.lt_trans HDL.out two_L_lt)
                  rwa [decide_eq_false hge] at h
                have HDM : Hid (D % ordL = D) := Lib.hid (Nat.mod_eq_of_lt (by omega))
                clear hge HD
                go_wp2_with (first
                  | (refine wpList_load_arr rfl 70 (.tmp 3) rfl 33 arrB33 hD3 rfl (by omega) ?_; simp only [Nat.zero_add])
                  | (go_at_call 40; refine (HAB.out _).mono ?_; rintro e wA ⟨rfl, hbA⟩
                     have k3 := hD3.of_block (hbA.block _ hD3.lt)
                     have k2 := h2.of_block (hbA.block _ h2.lt)
                     have kL := hL.of_block (hbA.block _ hL.lt)
                     have kB := hB.trans (hbA.mono (HGS.out _ hB))
                     clear hD3 h2 hL hB hbA))
                go_roundw
                case rel => exact ⟨k, by omega, rfl, by rw [HST.out, HDM.out]; exact k3, k2, kL, kB⟩
                case measure => (simp [intOf]; try omega)
    · obtain rfl : i = n := by omega
      rw [← HN.out] at h3
      obtain ⟨R, hR⟩ := nat_var (expB l l.length % ordL)
      rw [← hR] at h3
      have HR := Lib.hid hR
      have r2 := h2.alloc (.cells (arrOf 32 fun _ => .int .u8 0) 30)
      have r3 := h3.alloc (.cells (arrOf 32 fun _ => .int .u8 0) 30)
      have rs := rowIs_arr wr 32 (fun _ => .int .u8 0) 30
      have kB := hB.alloc (HGS.out _ hB) (.cells (arrOf 32 fun _ => .int .u8 0) 30)
      have hlt2 := h2.lt
      have hlt3 := h3.lt
      have hge := HGS.out _ hB
      clear h3 h2 hL hB hR
      go_wp2_with (refine wpList_alloc_arr rfl 30 rfl (arrOf 32 fun _ => .int .u8 0) zeroSc ?_)
      generalize hwa : wr.alloc (.cells (arrOf 32 fun _ => .int .u8 0) 30) = wa at *
      generalize hgs : wr.heap.size = gs at *
      have n2s : g2 ≠ gs := by omega
      have n3s : g3 ≠ gs := by omega
      have ls : g2 ≤ gs := by omega
      clear hwa hgs hlt2 hlt3
      replace r2 := World.rowIs.drew r2
      replace r3 := World.rowIs.drew r3
      replace rs := World.rowIs.drew rs
      replace kB := kB.drew
      have hBs := Bs.of_part2 (off := 1) (n := 32) r3 (beL R) (beL_length R) (by omega) (by unfold maxLen; omega) fun i hi => by
        rw [beL_at]
        unfold bF
        rw [beL_length] at hi
        rw [show 33 - 1 - (1 + i) = 31 - i by omega]
      refine wp_region_lins [(0, some [2]), (1, some [2]), (2, none)] (fun _ _ => True) (by kernel_rfl) (by kernel_rfl) (by decide) (by kernel_rfl) (fun d _ _ _ _ h => by cases d <;> exact h) (fun _ _ => trivial) ?_
      refine lins_read 80 (Op.slice 30 (Operand.tmp 14) none none none) 22 (.slice (some ⟨gs, 0, none⟩) 32 32) rfl rfl rfl rfl rfl (fun w0 hw0 => by exact exec_sliceAll _ _ 5 _ _ (by kernel_rfl) (by kernel_rfl) rfl (by omega)) ?_
      simp only [Act.put, List.setIfInBounds_toArray, List.set_cons_zero, List.set_cons_succ, Nat.zero_add]
      refine lins_read 81 (Op.slice 70 (Operand.tmp 3) (some (.const (.int .i64 1))) none none) 22 (.slice (some ⟨g3, 1, none⟩) 32 32) rfl rfl rfl rfl rfl (fun w0 hw0 => by exact exec_sliceFromArr _ _ 5 _ _ _ 1 32 1 (n := 33) (by kernel_rfl) (by kernel_rfl) rfl rfl (by omega) rfl rfl) ?_
      simp only [Act.put, List.setIfInBounds_toArray, List.set_cons_zero, List.set_cons_succ, Nat.zero_add]
      refine lins_copy (some 82) (.tmp 80) (.tmp 81) _ rfl rfl rfl rfl rfl rs hBs rfl rfl (by omega) 32 (by rw [beL_length]; rfl) ?_
      intro wc hrc hgc hsc
      have rc : wc.rowIs gs 30 32 (bF 32 R) := hrc.congr fun i hi => by
        unfold putN bytesAt
        rw [if_pos (by omega), Nat.sub_zero, beL_getD R i hi]
        unfold bF
        rw [show 32 - 1 - i = 31 - i by omega]
      have rc2 := gb_rowIs r2 hgc n2s
      have rB := kB.grown hgc (HGS.out _ kB) (by intro k hk; cases hk; exact ls)
      refine ⟨fun _ _ => True, fun c hc => (by cases hc), ?_⟩
      clear hrc hgc hsc rs r2 r3 kB hBs
      simp only [Act.put, List.setIfInBounds_toArray, List.set_cons_zero, List.set_cons_succ, Nat.zero_add]
      refine lins_end ?_
      go_wp2_with (first
        | (refine wpList_load_arr rfl 30 (.tmp 14) rfl 32 arrSc rc rfl (by omega) ?_; simp only [Nat.zero_add])
        | (refine wpList_store_arr rfl 30 (.tmp 2) (.tmp 83) rfl 32 arrSc rc2 rfl rfl (by omega) (fun _ _ => rfl) ?_; intro wd hrd hgd hsd))
      refine ret_cell_arr rfl arrSc hrd rfl (by omega) rfl ⟨?_, by rw [HG.out]; exact rB.grown hgd (HGS.out _ rB) (by intro k hk; cases hk; exact Nat.le_refl _)⟩
      rw [← HR.out]
      refine congrArg (fun x => Ending.returned (.agg x)) (arrOf_congr fun i hi => ?_)
      unfold putN
      rw [if_pos (by omega), Nat.zero_add, Nat.sub_zero]
end Go.Proofs.Ytncdlaidmiokiaa
