/- Digits: flat.Hex, missiveref1.Hex. -/
import Derived.Test.YtbcmocijoklchaaCat
namespace Go.Proofs.Ytbcmocijoklchaa
open Go.RowKit Go.Deep

def hexDig (n : Nat) : UInt8 := if n < 10 then UInt8.ofNat (48 + n) else UInt8.ofNat (87 + n)
def hexOne (b : UInt8) : List UInt8 := [hexDig (b.toNat / 16), hexDig (b.toNat % 16)]
def hexTo (l : List UInt8) (j : Nat) : List UInt8 := (l.take j).flatMap hexOne
theorem and_15 (x : UInt8) : bits .and .u8 (x.toNat : Int) 15 = ((x.toNat % 16 : Nat) : Int) := by
  have hx := UInt8.toNat_lt x
  have e1 : (BitVec.ofInt 8 (x.toNat : Int)).toNat = x.toNat := by simp
  have e2 : (BitVec.ofInt 8 15).toNat = 15 := by decide
  have e3 : x.toNat &&& 15 = x.toNat % 16 := Nat.and_two_pow_sub_one_eq_mod x.toNat 4
  show IntKind.u8.wrap (((BitVec.ofInt 8 (x.toNat : Int)) &&& (BitVec.ofInt 8 15)).toNat : Int) = _
  rw [BitVec.toNat_and, e1, e2, e3]
  exact IntWalk.u8_in _ ⟨by omega, by omega⟩
theorem hexStr : ∀ n (h : n < 16), (ByteArray.mk #[48, 49, 50, 51, 52, 53, 54, 55, 56, 57, 97, 98, 99, 100, 101, 102])[n]'h = hexDig n := by decide
theorem hexStr_hi (x : UInt8) (h : ((x.toNat : Int) / 16).toNat < 16) : (ByteArray.mk #[48, 49, 50, 51, 52, 53, 54, 55, 56, 57, 97, 98, 99, 100, 101, 102])[((x.toNat : Int) / 16).toNat]'h = hexDig (x.toNat / 16) := by
  rw [hexStr]; congr 1
theorem hexStr_lo (x : UInt8) (h : ((x.toNat : Int) % 16).toNat < 16) : (ByteArray.mk #[48, 49, 50, 51, 52, 53, 54, 55, 56, 57, 97, 98, 99, 100, 101, 102])[((x.toNat : Int) % 16).toNat]'h = hexDig (x.toNat % 16) := by
  rw [hexStr]; congr 1
theorem hexTo_succ (l : List UInt8) (j : Nat) (h : j < l.length) : hexTo l (j + 1) = hexTo l j ++ hexOne l[j] := by
  unfold hexTo
  rw [List.take_succ_eq_append_getElem h, List.flatMap_append]
  simp
theorem hex_round (l : List UInt8) (j : Nat) (x : UInt8) (h : j < l.length) (hx : l[j] = x) {p q} :
    hexTo l j ++ [(ByteArray.mk #[48, 49, 50, 51, 52, 53, 54, 55, 56, 57, 97, 98, 99, 100, 101, 102])[((x.toNat : Int) / 16).toNat]'p, (ByteArray.mk #[48, 49, 50, 51, 52, 53, 54, 55, 56, 57, 97, 98, 99, 100, 101, 102])[((x.toNat : Int) % 16).toNat]'q] = hexTo l (j + 1) := by
  rw [hexTo_succ l j h, hx, hexStr_hi x p, hexStr_lo x q]; rfl
theorem hexTo_length (l : List UInt8) : ∀ j, j ≤ l.length → (hexTo l j).length = 2 * j
  | 0, _ => by simp [hexTo]
  | j + 1, h => by
    rw [hexTo_succ l j (by omega), List.length_append, hexTo_length l j (by omega)]
    simp [hexOne]; omega

set_option maxHeartbeats 800000 in
theorem hex_any (v : Value) (l : List UInt8) (w : World) (hv : Bs w v l) (hlen : l.length ≤ 1000000000) :
    Calls Try.prog 26 #[v] w fun e w' => e = .returned (.string ⟨(hexTo l l.length).toArray⟩) ∧ Below w.heap.size w w' := by
  have HV := Lib.hid hv
  obtain ⟨a, cap, rfl, h1, h2, h3, h4⟩ := hv
  clear h3 h4
  unfold maxLen at h2
  obtain ⟨i0, hi, hz0, hz1, hz2⟩ := info_parts Try.info5
  go_enter Try.func26, Try.ntmps26
  go_wp2_with (refine wpList_make_own _ rfl _ _ 22 rfl w.heap.size 5 i0 (.int .u8 0) 1 Try.underlying22 hi hz0 hz1 .i64 .i64 _ (2 * l.length) rfl rfl (by omega) (by rw [hz2]; omega) (by unfold maxLen; omega) (Nat.le_refl _) ?_; intro w1 hown1 hgrow1)
  have hO : Owns w1 w.heap.size (.slice (some ⟨w.heap.size, 0, none⟩) 0 (2 * l.length)) [] := hown1
  have hB1 : Below w.heap.size w w1 := (Below.refl _ _).grown hgrow1 (Nat.le_refl _) (fun k hk => by cases hk)
  clear hown1 hgrow1
  go_loopw [3, 12] (fun v i wr => ∃ j : Nat, j ≤ l.length ∧ i = .int .i64 j ∧ Owns wr w.heap.size v (hexTo l j) ∧ Below w.heap.size w wr) (fun _ i _ => l.length - (intOf i).toNat)
  case atStart => exact ⟨0, Nat.zero_le _, rfl, hO, hB1⟩
  case round =>
    obtain ⟨j, hj, rfl, hown, hbel⟩ := hrel
    clear hO hB1
    by_cases hlt : j < l.length
    · obtain ⟨b, off, cap', he, _, _, hbl, hc⟩ := HV.out.open_cons (by omega)
      cases he
      have hcr : wr.cell? ⟨b, off + j, none⟩ = some (.int .u8 (l[j].toNat : Int)) := (hbel.cell (by exact hbl)).trans (hc j hlt)
      clear hc
      generalize hx : l[j] = x at *
      have HX := Lib.hid hx
      clear hx
      have hx1 : x.toNat < 256 := UInt8.toNat_lt x
      have hx2 : 0 ≤ (x.toNat : Int) / 16 ∧ (x.toNat : Int) / 16 < 16 := by omega
      have hx3 : 0 ≤ (x.toNat : Int) % 16 ∧ (x.toNat : Int) % 16 < 16 := by omega
      have hand := and_15 x
      go_wp2
      go_region_law (refine step_app rfl (.tmp 16) (.tmp 23) rfl w.heap.size _ _ (hexTo l j) _ (Owns.alloc (Owns.drew hown) _) (Bs.two _ _ _) rfl rfl (by rw [hexTo_length l j hj]; simp; omega) (by have := hbel.size; simp; omega) ?_; intro v2 w2 hown2 hgrow2)
      all_goals
        rw [hex_round l j x hlt HX.out] at hown2
        have hbel3 : Below w.heap.size w w2 := ((hbel.drew).alloc hbel.size _).grown hgrow2 (by have := hbel.size; simp; omega) (Owns.block hown)
        clear hgrow2 hown hbel hcr hand
        go_wp2
        go_roundw
        case rel => exact ⟨j + 1, by omega, by go_num, hown2, hbel3⟩
        case measure => simp [intOf]; omega
    · obtain rfl : j = l.length := by omega
      have hb := hown.bs.conv
      go_wp2
      go_ret
      exact ⟨rfl, hbel⟩

set_option maxHeartbeats 1600000 in
theorem refHex_any (v : Value) (l : List UInt8) (w : World) (hv : Bs w v l) (hlen : l.length ≤ 1000000000) :
    Calls Try.prog 27 #[v] w fun e w' => e = .returned (.string ⟨(hexTo l l.length).toArray⟩) ∧ Below w.heap.size w w' := by
  have HV := Lib.hid hv
  obtain ⟨a, cap, rfl, h1, h2, h3, h4⟩ := hv
  clear h3 h4
  unfold maxLen at h2
  go_enter Try.func27, Try.ntmps27
  go_wp2
  go_loopw [3, 4] (fun v i wr => ∃ j : Nat, j ≤ l.length ∧ i = .int .i64 j ∧ Owns wr w.heap.size v (hexTo l j) ∧ Below w.heap.size w wr) (fun _ i _ => l.length - (intOf i).toNat)
  case atStart => exact ⟨0, Nat.zero_le _, rfl, Owns.nil _ _, Below.refl _ _⟩
  case round =>
    obtain ⟨j, hj, rfl, hown, hbel⟩ := hrel
    by_cases hlt : j < l.length
    · obtain ⟨b, off, cap', he, _, _, hbl, hc⟩ := HV.out.open_cons (by omega)
      cases he
      have hcr : wr.cell? ⟨b, off + j, none⟩ = some (.int .u8 (l[j].toNat : Int)) := (hbel.cell (by exact hbl)).trans (hc j hlt)
      clear hc
      generalize hx : l[j] = x at *
      have HX := Lib.hid hx
      clear hx
      have hx1 : x.toNat < 256 := UInt8.toNat_lt x
      have hx2 : 0 ≤ (x.toNat : Int) / 16 ∧ (x.toNat : Int) / 16 < 16 := by omega
      have hx3 : 0 ≤ (x.toNat : Int) % 16 ∧ (x.toNat : Int) % 16 < 16 := by omega
      have hx4 : (j : Int) < (l.length : Int) := by omega
      have hand := and_15 x
      go_wp2
      go_region_law (refine step_app rfl (.tmp 11) (.tmp 24) rfl w.heap.size _ _ (hexTo l j) _ (Owns.alloc (Owns.drew hown) _) (Bs.two _ _ _) rfl rfl (by rw [hexTo_length l j hj]; simp; omega) (by have := hbel.size; simp; omega) ?_; intro v2 w2 hown2 hgrow2)
      all_goals
        rw [hex_round l j x hlt HX.out] at hown2
        have hbel3 : Below w.heap.size w w2 := ((hbel.drew).alloc hbel.size _).grown hgrow2 (by have := hbel.size; simp; omega) (Owns.block hown)
        clear hgrow2 hown hbel hcr hand
        go_wp2
        go_roundw
        case rel => exact ⟨j + 1, by omega, by go_num, hown2, hbel3⟩
        case measure => simp [intOf]; omega
    · obtain rfl : j = l.length := by omega
      have hb := hown.bs.conv
      go_wp2
      go_ret
      exact ⟨rfl, hbel⟩
end Go.Proofs.Ytbcmocijoklchaa
