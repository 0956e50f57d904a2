/- Bytes laid over each other: flat.Xor, missiveref1.Xor. -/
import Derived.Test.YtbcmocijoklchaaOwn
import Derived.Test.YtbcmocijoklchaaGreat
import Derived.BigRegion
namespace Go.Proofs.Ytbcmocijoklchaa
open Go.RowKit Go.Deep

def xorB (a b : List UInt8) : List UInt8 := List.zipWith (· ^^^ ·) a b
theorem xorB_length (a b : List UInt8) : (xorB a b).length = min a.length b.length := by simp [xorB]

theorem bits_xorB (x y : UInt8) : bits .xor .u8 (x.toNat : Int) (y.toNat : Int) = ((x ^^^ y).toNat : Int) := by
  have hx := UInt8.toNat_lt x
  have hy := UInt8.toNat_lt y
  have e1 : (BitVec.ofInt 8 (x.toNat : Int)).toNat = x.toNat := by simp
  have e2 : (BitVec.ofInt 8 (y.toNat : Int)).toNat = y.toNat := by simp
  show IntKind.u8.wrap (((BitVec.ofInt 8 (x.toNat : Int)) ^^^ (BitVec.ofInt 8 (y.toNat : Int))).toNat : Int) = _
  have hlt := ((BitVec.ofInt 8 (x.toNat : Int)) ^^^ (BitVec.ofInt 8 (y.toNat : Int))).isLt
  rw [IntWalk.u8_in _ ⟨by omega, by omega⟩, BitVec.toNat_xor, e1, e2, UInt8.toNat_xor]

/-- Byte i of a over b. -/
def xAt (a b : List UInt8) (i : Nat) : Nat := (a.getD i 0 ^^^ b.getD i 0).toNat

theorem laid_xor {w : World} {g k : Nat} {a b : List UInt8} (hk : k = min a.length b.length) (hm : k ≤ maxLen) (h : w.rowIs g 5 k (laidTo (xAt a b) k)) : Bs w (.slice (some ⟨g, 0, none⟩) k k) (xorB a b) := by
  have hl : (xorB a b).length = k := by rw [xorB_length, hk]
  have hB : Bs w (.slice (some ⟨g, 0, none⟩) (xorB a b).length k) (xorB a b) := by
    refine Bs.of_rowIs h _ (by omega) hm fun i hi => ?_
    have h1 : i < a.length := by omega
    have h2 : i < b.length := by omega
    unfold laidTo
    rw [if_pos (by omega)]
    simp [xorB, xAt, h1, h2]
  rwa [hl] at hB

set_option maxHeartbeats 1600000 in
theorem xor_any (v1 v2 : Value) (a b : List UInt8) (w : World) (hv1 : Bs w v1 a) (hv2 : Bs w v2 b) (hlen : a.length ≤ 2147483647 ∨ b.length ≤ 2147483647) :
    Calls Try.prog 12 #[v1, v2] w fun e w' => ∃ v, e = .returned v ∧ Bs w' v (xorB a b) ∧ Below w.heap.size w w' := by
  obtain ⟨a1, na, cap1, rfl, hna, h1, h2, hv1⟩ := hv1.shape
  obtain ⟨a2, nb, cap2, rfl, hnb, h3, h4, hv2⟩ := hv2.shape
  have HV1 := Lib.hid hv1
  have HV2 := Lib.hid hv2
  have HNA := Lib.hid hna
  have HNB := Lib.hid hnb
  clear hv1 hv2
  obtain ⟨k, hk⟩ : ∃ k, k = min na nb := ⟨_, rfl⟩
  have HK := Lib.hid hk
  have hkl : k ≤ na := by omega
  have hkr : k ≤ nb := by omega
  have hks : k ≤ 2147483647 := by omega
  have hmk := fun (w : World) => run_make_row' (P := Try.prog) 22 5 (.int .u8 0) 1 Try.underlying22 Try.info5 rfl .i64 .i64 k (by omega) (by omega) w
  have hmade := World.rowIs_made w (.int .u8 0) k 5
  clear hna hnb hlen
  by_cases hle : na ≤ nb
  · obtain rfl : k = na := by omega
    clear hk
    go_enter Try.func12, Try.ntmps12
    go_wp2
    go_loopw [15] (fun i wr => ∃ j : Nat, j ≤ k ∧ i = .int .i64 j ∧ wr.rowIs w.heap.size 5 k (laidTo (xAt a b) j) ∧ Below w.heap.size w wr) (fun i _ => k - (intOf i).toNat)
    case atStart => exact ⟨0, Nat.zero_le _, rfl, hmade.congr fun i _ => rfl, (Below.refl _ _).alloc (Nat.le_refl _) _⟩
    case round =>
      obtain ⟨j, hj, rfl, hrow, hbel⟩ := hrel
      clear hmk hmade
      by_cases hlt : j < k
      · obtain ⟨b1, o1, _, he, _, _, l1, hc1⟩ := HV1.out.open_n HNA.out (by omega)
        cases he
        obtain ⟨b2, o2, _, he, _, _, l2, hc2⟩ := HV2.out.open_n HNB.out (by omega)
        cases he
        have ha : j < a.length := by have := HNA.out; omega
        have hb : j < b.length := by have := HNB.out; omega
        have hcl1 : wr.cell? ⟨b1, o1 + j, none⟩ = some (.int .u8 ((a[j]).toNat : Int)) := (hbel.cell (by exact l1)).trans (hc1 j ha)
        have hcl2 : wr.cell? ⟨b2, o2 + j, none⟩ = some (.int .u8 ((b[j]).toNat : Int)) := (hbel.cell (by exact l2)).trans (hc2 j hb)
        have hcell := hrow.cell hlt
        have hfr := hrow.frozen j
        have hx := bits_xorB a[j] b[j]
        have HX : Hid (((a[j].toNat ^^^ b[j].toNat : Nat) : Int) = ((xAt a b j : Nat) : Int)) := Lib.hid (by simp [xAt, ha, hb])
        have hi1 : 0 ≤ (j : Int) ∧ (j : Int) < (k : Int) := by omega
        have hi2 : 0 ≤ (j : Int) ∧ (j : Int) < (nb : Int) := by omega
        clear hc1 hc2
        generalize a[j] = x at *
        generalize b[j] = y at *
        go_wp2
        go_region
        go_wp2
        go_roundw
        case rel => exact ⟨j + 1, by omega, by go_num, laid_step hrow.drew (by rw [HX.out]), (hbel.drew.setCell (Nat.le_refl _) _)⟩
        case measure => simp [intOf]; omega
      · obtain rfl : j = k := by omega
        go_wp2
        go_ret
        exact ⟨_, rfl, laid_xor (by rw [HNA.out, HNB.out]; exact HK.out) (by unfold maxLen; omega) hrow, hbel⟩
  · obtain rfl : k = nb := by omega
    clear hk
    go_enter Try.func12, Try.ntmps12
    go_wp2
    go_loopw [15] (fun i wr => ∃ j : Nat, j ≤ k ∧ i = .int .i64 j ∧ wr.rowIs w.heap.size 5 k (laidTo (xAt a b) j) ∧ Below w.heap.size w wr) (fun i _ => k - (intOf i).toNat)
    case atStart => exact ⟨0, Nat.zero_le _, rfl, hmade.congr fun i _ => rfl, (Below.refl _ _).alloc (Nat.le_refl _) _⟩
    case round =>
      obtain ⟨j, hj, rfl, hrow, hbel⟩ := hrel
      clear hmk hmade
      by_cases hlt : j < k
      · obtain ⟨b1, o1, _, he, _, _, l1, hc1⟩ := HV1.out.open_n HNA.out (by omega)
        cases he
        obtain ⟨b2, o2, _, he, _, _, l2, hc2⟩ := HV2.out.open_n HNB.out (by omega)
        cases he
        have ha : j < a.length := by have := HNA.out; omega
        have hb : j < b.length := by have := HNB.out; omega
        have hcl1 : wr.cell? ⟨b1, o1 + j, none⟩ = some (.int .u8 ((a[j]).toNat : Int)) := (hbel.cell (by exact l1)).trans (hc1 j ha)
        have hcl2 : wr.cell? ⟨b2, o2 + j, none⟩ = some (.int .u8 ((b[j]).toNat : Int)) := (hbel.cell (by exact l2)).trans (hc2 j hb)
        have hcell := hrow.cell hlt
        have hfr := hrow.frozen j
        have hx := bits_xorB a[j] b[j]
        have HX : Hid (((a[j].toNat ^^^ b[j].toNat : Nat) : Int) = ((xAt a b j : Nat) : Int)) := Lib.hid (by simp [xAt, ha, hb])
        have hi1 : 0 ≤ (j : Int) ∧ (j : Int) < (k : Int) := by omega
        have hi2 : 0 ≤ (j : Int) ∧ (j : Int) < (na : Int) := by omega
        clear hc1 hc2
        generalize a[j] = x at *
        generalize b[j] = y at *
        go_wp2
        go_region
        go_wp2
        go_roundw
        case rel => exact ⟨j + 1, by omega, by go_num, laid_step hrow.drew (by rw [HX.out]), (hbel.drew.setCell (Nat.le_refl _) _)⟩
        case measure => simp [intOf]; omega
      · obtain rfl : j = k := by omega
        go_wp2
        go_ret
        exact ⟨_, rfl, laid_xor (by rw [HNA.out, HNB.out]; exact HK.out) (by unfold maxLen; omega) hrow, hbel⟩

def xorTo (a b : List UInt8) (j : Nat) : List UInt8 := (xorB a b).take j
theorem xorTo_succ (a b : List UInt8) (j : Nat) (h1 : j < a.length) (h2 : j < b.length) : xorTo a b (j + 1) = xorTo a b j ++ [a[j] ^^^ b[j]] := by
  have h : j < (xorB a b).length := by rw [xorB_length]; omega
  unfold xorTo
  rw [List.take_succ_eq_append_getElem h]
  simp [xorB]
theorem xorTo_all (a b : List UInt8) (j : Nat) (h : min a.length b.length ≤ j) : xorTo a b j = xorB a b := by
  unfold xorTo; rw [List.take_of_length_le (by rw [xorB_length]; exact h)]
theorem xorTo_length (a b : List UInt8) (j : Nat) (h1 : j ≤ a.length) (h2 : j ≤ b.length) : (xorTo a b j).length = j := by
  unfold xorTo; rw [List.length_take, xorB_length]; omega

theorem Bs.one_xor (w : World) (x y : UInt8) : Bs (w.alloc (.cells #[.int .u8 ((x.toNat ^^^ y.toNat : Nat) : Int)] 5)) (.slice (some ⟨w.heap.size, 0, none⟩) 1 1) [x ^^^ y] := by
  have h := Bs.one w (x ^^^ y)
  rwa [UInt8.toNat_xor] at h

set_option maxHeartbeats 1600000 in
theorem refXor_any (v1 v2 : Value) (a b : List UInt8) (w : World) (hv1 : Bs w v1 a) (hv2 : Bs w v2 b) (hlen : a.length ≤ 2147480000) :
    Calls Try.prog 13 #[v1, v2] w fun e w' => ∃ v, e = .returned v ∧ Bs w' v (xorB a b) ∧ Below w.heap.size w w' := by
  obtain ⟨a1, na, cap1, rfl, hna, h1, h2, hv1⟩ := hv1.shape
  obtain ⟨a2, nb, cap2, rfl, hnb, h3, h4, hv2⟩ := hv2.shape
  rw [hna] at hlen
  have HV1 := Lib.hid hv1
  have HV2 := Lib.hid hv2
  have HNA := Lib.hid hna
  have HNB := Lib.hid hnb
  clear hv1 hv2 hna hnb
  go_enter Try.func13, Try.ntmps13
  go_wp2
  go_loopw [5, 6] (fun v i wr => ∃ j : Nat, j ≤ na ∧ j ≤ nb ∧ i = .int .i64 j ∧ Owns wr w.heap.size v (xorTo a b j) ∧ Below w.heap.size w wr) (fun _ i _ => na - (intOf i).toNat)
  case atStart => exact ⟨0, Nat.zero_le _, Nat.zero_le _, rfl, Owns.nil _ _, Below.refl _ _⟩
  case round =>
    obtain ⟨j, hj, hj2, rfl, hown, hbel⟩ := hrel
    by_cases hlt : j < na
    · by_cases hlt2 : j < nb
      · obtain ⟨b1, o1, _, he, _, _, l1, hc1⟩ := HV1.out.open_n HNA.out (by omega)
        cases he
        obtain ⟨b2, o2, _, he, _, _, l2, hc2⟩ := HV2.out.open_n HNB.out (by omega)
        cases he
        have ha : j < a.length := by have := HNA.out; omega
        have hb : j < b.length := by have := HNB.out; omega
        have hcl1 : wr.cell? ⟨b1, o1 + j, none⟩ = some (.int .u8 ((a[j]).toNat : Int)) := (hbel.cell (by exact l1)).trans (hc1 j ha)
        have hcl2 : wr.cell? ⟨b2, o2 + j, none⟩ = some (.int .u8 ((b[j]).toNat : Int)) := (hbel.cell (by exact l2)).trans (hc2 j hb)
        have HS := Lib.hid (xorTo_succ a b j ha hb)
        have hx := bits_xorB a[j] b[j]
        have hi1 : 0 ≤ (j : Int) ∧ (j : Int) < (na : Int) := by omega
        have hi2 : 0 ≤ (j : Int) ∧ (j : Int) < (nb : Int) := by omega
        have HL := Lib.hid (xorTo_length a b j (by omega) (by omega))
        clear hc1 hc2
        generalize a[j] = x at *
        generalize b[j] = y at *
        go_wp2
        go_region_law (refine step_app rfl (.tmp 19) (.tmp 29) rfl w.heap.size _ _ (xorTo a b j) _ (Owns.alloc (Owns.drew hown) _) (Bs.one_xor _ _ _) rfl rfl (by rw [HL.out]; simp; omega) (by have := hbel.size; simp; omega) ?_; intro v2 w2 hown2 hgrow2)
        all_goals
          rw [← HS.out] at hown2
          have hbel3 : Below w.heap.size w w2 := ((hbel.drew).alloc hbel.size _).grown hgrow2 (by have := hbel.size; simp; omega) (Owns.block hown)
          clear hgrow2 hown hbel hcl1 hcl2 hx
          go_wp2
          go_roundw
          case rel => exact ⟨j + 1, by omega, by omega, by go_num, hown2, hbel3⟩
          case measure => simp [intOf]; omega
      · obtain rfl : j = nb := by omega
        have HA := Lib.hid (xorTo_all a b j (by rw [HNA.out, HNB.out]; omega))
        go_wp2
        go_ret
        exact ⟨_, rfl, by rw [← HA.out]; exact hown.bs, hbel⟩
    · obtain rfl : j = na := by omega
      have HA := Lib.hid (xorTo_all a b j (by rw [HNA.out, HNB.out]; omega))
      go_wp2
      go_ret
      exact ⟨_, rfl, by rw [← HA.out]; exact hown.bs, hbel⟩
end Go.Proofs.Ytbcmocijoklchaa
