/- The document's numbers below L, bytes, the greatest first: order, above. -/
import Derived.Test.YtncdlaidmiokiaaEdR
namespace Go.Proofs.Ytncdlaidmiokiaa
open Go.RowKit Go.Deep
set_option linter.unusedSimpArgs false
set_option linter.unusedVariables false

theorem less_atB (V P i : Nat) (h : V / 256 ^ (i + 1) = P / 256 ^ (i + 1)) (hne : byteN V i ≠ byteN P i) : byteN P i < byteN V i ↔ P ≤ V := by
  have e : ∀ X : Nat, X / 256 ^ i = 256 * (X / 256 ^ (i + 1)) + byteN X i := fun X => by
    unfold byteN
    rw [Nat.pow_succ, ← Nat.div_div_eq_div_mul]
    omega
  have h1 := e V
  have h2 := e P
  rw [h] at h1
  constructor
  · intro hlt
    apply Classical.byContradiction
    intro hn
    have := Nat.div_le_div_right (c := 256 ^ i) (show V ≤ P by omega)
    omega
  · intro hle
    have := Nat.div_le_div_right (c := 256 ^ i) hle
    omega
theorem same_atB (V P i : Nat) (h : V / 256 ^ (i + 1) = P / 256 ^ (i + 1)) (he : byteN V i = byteN P i) : V / 256 ^ i = P / 256 ^ i := by
  have e : ∀ X : Nat, X / 256 ^ i = 256 * (X / 256 ^ (i + 1)) + byteN X i := fun X => by
    unfold byteN
    rw [Nat.pow_succ, ← Nat.div_div_eq_div_mul]
    omega
  rw [e V, e P, h, he]
/-- The cells of a number's n bytes, the greatest first. -/
def bF (n V : Nat) : Nat → Value := fun i => .int .u8 ((byteN V (n - 1 - i) : Nat) : Int)
set_option maxRecDepth 10000 in
theorem refOrder_any (w : World) : Calls Try.prog 38 #[] w fun e w' => e = .returned (.slice (some ⟨w.heap.size, 0, none⟩) 32 32) ∧ w'.rowIs w.heap.size 5 32 (bF 32 ordL) ∧ Below w.heap.size w w' := by
  go_enter Try.func38, Try.ntmps38
  go_wp2
  go_ret
  refine ⟨rfl, ?_, (Below.refl _ _).alloc (Nat.le_refl _) _⟩
  have h := rowIs_arr w 32 (bF 32 ordL) 5
  have e : arrOf 32 (bF 32 ordL) = #[Value.int .u8 0x10, .int .u8 0, .int .u8 0, .int .u8 0, .int .u8 0, .int .u8 0, .int .u8 0, .int .u8 0, .int .u8 0, .int .u8 0, .int .u8 0, .int .u8 0, .int .u8 0, .int .u8 0, .int .u8 0, .int .u8 0, .int .u8 0x14, .int .u8 0xde, .int .u8 0xf9, .int .u8 0xde, .int .u8 0xa2, .int .u8 0xf7, .int .u8 0x9c, .int .u8 0xd6, .int .u8 0x58, .int .u8 0x12, .int .u8 0x63, .int .u8 0x1a, .int .u8 0x5c, .int .u8 0xf5, .int .u8 0xd3, .int .u8 0xed] := by kernel_rfl
  rw [e] at h
  exact h
theorem arrB33 : IsArr Try.prog 70 33 := ⟨by kernel_rfl, by kernel_rfl⟩
theorem zeroB33 : (Try.prog.info? 70).map (fun i => i.zero) = some (some (.agg (arrOf 33 fun _ => .int .u8 0))) := by kernel_rfl
theorem arrSc : IsArr Try.prog 30 32 := ⟨by kernel_rfl, by kernel_rfl⟩
theorem zeroSc : (Try.prog.info? 30).map (fun i => i.zero) = some (some (.agg (arrOf 32 fun _ => .int .u8 0))) := by kernel_rfl
theorem ordL_lt : ordL < 256 ^ 32 := by decide +kernel
theorem ordL_lt33 : ordL < 256 ^ 33 := by decide +kernel
set_option maxHeartbeats 1000000 in
theorem refAbove_any (V : Nat) (w : World) (hV : V < 256 ^ 33) : Calls Try.prog 40 #[.agg (arrOf 33 (bF 33 V))] w fun e w' => e = .returned (.bool (decide (ordL ≤ V))) ∧ Below w.heap.size w w' := by
  have ha0 := rowIs_arr w 33 (bF 33 V) 70
  have hb0 : Below w.heap.size w (w.alloc (.cells (arrOf 33 (bF 33 V)) 70)) := (Below.refl _ _).alloc (Nat.le_refl _) _
  have h33 : V / 256 ^ 33 = ordL / 256 ^ 33 := by rw [Nat.div_eq_of_lt hV, Nat.div_eq_of_lt ordL_lt33]
  have hc0 := ha0.cell (i := 0) (by omega)
  have hL32 : byteN ordL 32 = 0 := by decide +kernel
  have HLS := Lib.hid (less_atB V ordL 32 h33)
  have HSM := Lib.hid (same_atB V ordL 32 h33)
  unfold bF at hc0
  rw [show 33 - 1 - 0 = 32 from rfl] at hc0
  rw [hL32] at HLS HSM
  obtain ⟨x0, hx0⟩ := nat_var (byteN V 32)
  rw [← hx0] at hc0 HLS HSM
  clear h33 hV hL32 hx0
  go_enter Try.func40, Try.ntmps40
  by_cases hz : x0 = 0
  · have HE := Lib.hid (HSM.out hz)
    have hzI : (x0 : Int) = 0 := by omega
    rw [hzI] at hc0
    clear HLS HSM hz hzI
    go_wp2_with (go_at_call 38; refine (refOrder_any _).mono ?_; rintro e w1 ⟨rfl, hl1, hb1⟩
                 have ha1 := ha0.of_block (hb1.block _ ha0.lt)
                 have hB1 := hb0.trans (hb1.mono hb0.size)
                 have hc1 := (hb1.cell (p := ⟨w.heap.size, 0, none⟩) ha0.lt).trans hc0
                 clear ha0 hb0 hb1 hc0)
    clear hc1
    rw [World.size_alloc] at hl1
    generalize hga : w.heap.size = ga at *
    generalize ga + 1 = gl at *
    have HGA := Lib.hid hga
    clear hga
    go_loopw [4] (fun i wr => ∃ j : Nat, j ≤ 32 ∧ i = .int .i64 (j : Int) ∧ Hid (V / 256 ^ (32 - j) = ordL / 256 ^ (32 - j)) ∧ wr.rowIs ga 70 33 (bF 33 V) ∧ wr.rowIs gl 5 32 (bF 32 ordL) ∧ Below ga w wr) (fun i _ => 32 - (intOf i).toNat)
    case atStart => exact ⟨0, Nat.zero_le _, rfl, HE, ha1, hl1, hB1⟩
    case round =>
      clear ha1 hl1 hB1 HE
      obtain ⟨j, hj, rfl, HE, hA, hP, hB⟩ := hrel
      by_cases hlt : j < 32
      · have hcA := hA.cell (i := j + 1) (by omega)
        have hcP := hP.cell (i := j) (by omega)
        unfold bF at hcA hcP
        rw [show 33 - 1 - (j + 1) = 31 - j by omega] at hcA
        rw [show 32 - 1 - j = 31 - j by omega] at hcP
        have he2 := HE.out
        rw [show 32 - j = (31 - j) + 1 by omega] at he2
        have HL := Lib.hid (less_atB V ordL (31 - j) he2)
        have HS := Lib.hid (same_atB V ordL (31 - j) he2)
        have hlA := byteN_lt V (31 - j)
        have hlP := byteN_lt ordL (31 - j)
        have hjI : 0 ≤ (j : Int) ∧ (j : Int) < 32 := by omega
        have hwj : IntKind.i64.wrap ((j : Int) + 1) = ((j + 1 : Nat) : Int) := by rw [IntWalk.i64_in _ (by omega)]; omega
        obtain ⟨j1, hj1⟩ := nat_var (j + 1)
        rw [← hj1] at hwj hcA
        have hj1I : 0 ≤ (j1 : Int) ∧ (j1 : Int) < 33 := by omega
        clear he2 HE
        by_cases he : byteN V (31 - j) = byteN ordL (31 - j)
        · have HN : Hid (V / 256 ^ (32 - (j + 1)) = ordL / 256 ^ (32 - (j + 1))) := Lib.hid (by rw [show 32 - (j + 1) = 31 - j by omega]; exact HS.out he)
          rw [he] at hcA
          clear HL HS he hlA
          generalize byteN ordL (31 - j) = x at *
          have HJ1 := Lib.hid hj1
          clear hj1
          go_wp2
          go_region
          go_wp2
          go_roundw
          case rel => exact ⟨j + 1, by omega, by rw [HJ1.out], HN, hA.drew, hP.drew, hB.drew⟩
          case measure => (have h1 := HJ1.out; simp [intOf]; omega)
        · have hd : decide (ordL ≤ V) = decide (byteN ordL (31 - j) < byteN V (31 - j)) := by
            have h := HL.out he
            by_cases h2 : byteN ordL (31 - j) < byteN V (31 - j)
            · rw [decide_eq_true (h.1 h2), decide_eq_true h2]
            · rw [decide_eq_false (fun h3 => h2 (h.2 h3)), decide_eq_false h2]
          have HD := Lib.hid hd
          have hneI : ¬ ((byteN V (31 - j) : Nat) : Int) = ((byteN ordL (31 - j) : Nat) : Int) := by omega
          clear HL HS hd he hj1
          generalize byteN ordL (31 - j) = x at *
          generalize byteN V (31 - j) = y at *
          go_wp2
          go_region
          go_wp2
          go_region
          go_wp2
          go_ret
          exact ⟨by rw [HD.out]; simp, by rw [HGA.out]; exact hB.drew.drew⟩
      · obtain rfl : j = 32 := by omega
        have hEq : V = ordL := by have := HE.out; rwa [Nat.sub_self, Nat.pow_zero, Nat.div_one, Nat.div_one] at this
        have HD : Hid (decide (ordL ≤ V) = true) := Lib.hid (decide_eq_true (by rw [hEq]; exact Nat.le_refl _))
        clear hEq HE
        go_wp2
        go_ret
        exact ⟨by rw [HD.out]; rfl, by rw [HGA.out]; exact hB⟩
  · have HD : Hid (ordL ≤ V) := Lib.hid ((HLS.out hz).1 (Nat.pos_of_ne_zero hz))
    have hzI : ¬ (x0 : Int) = 0 := by omega
    clear HLS HSM hz
    rw [decide_eq_true HD.out]
    go_wp2_with (go_at_call 38; refine (refOrder_any _).mono ?_; rintro e w1 ⟨rfl, hl1, hb1⟩
                 have ha1 := ha0.of_block (hb1.block _ ha0.lt)
                 have hB1 := hb0.trans (hb1.mono hb0.size)
                 have hc1 := (hb1.cell (p := ⟨w.heap.size, 0, none⟩) ha0.lt).trans hc0
                 clear ha0 hb0 hb1 hc0)
    go_ret
    exact ⟨rfl, hB1⟩
end Go.Proofs.Ytncdlaidmiokiaa
