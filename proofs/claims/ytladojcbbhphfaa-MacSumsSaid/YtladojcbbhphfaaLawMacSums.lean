/- MacSums, walked. -/
import Derived.Test.YtladojcbbhphfaaMacW
import Derived.Test.YtladojcbbhphfaaMacR
import Derived.Test.YtladojcbbhphfaaAll
import Derived.Test.YtladojcbbhphfaaAlike
namespace Go.Proofs.Ytladojcbbhphfaa
open Go.RowKit Go.Deep

set_option maxHeartbeats 4000000 in
theorem law_macSums (w : World) (v0 : Value) (key : List UInt8) (h0 : Bs w v0 key) (v1 : Value) (L : List (List UInt8)) (h1 : Bss w v1 L) :
    Calls Try.prog 3 #[v0, v1] w fun e w' => e = .returned (.bool true) ∧ Below w.heap.size w w' := by
  obtain ⟨a0, n0, c0, rfl, e0, f0, g0, hB0⟩ := h0.shape
  have HK := Lib.hid hB0
  have HV := Lib.hid h1
  have HN := Lib.hid e0
  have hr : Below w.heap.size w w := Below.refl _ _
  clear h0 h1 hB0 e0
  by_cases hbig : (300 : Int) < (n0 : Int)
  · go_enter Try.func3, Try.ntmps3
    go_wp2_with (go_at_call 7; refine (awake4_any _).mono ?_; rintro e w9 ⟨rfl, hb9⟩)
    go_ret
    exact ⟨rfl, hb9⟩
  · go_enter Try.func3, Try.ntmps3
    go_wp2_with (go_at_call 6; refine (all_any _ _ 300 _ HV.out (by decide)).mono ?_; rintro e w1 ⟨s, rfl, hs1, hs2, hb1⟩
                 have HS := Lib.hid hs2
                 clear hs2
                 by_cases hsum : (300 : Int) < (s : Int))
    focus
      go_wp2_with (go_at_call 7; refine (awake4_any _).mono ?_; rintro e w9 ⟨rfl, hb9⟩)
      go_ret
      exact ⟨rfl, hb1.trans (hb9.mono hb1.size)⟩
    have hlen := HS.out (by omega)
    have HLE : Hid (L.flatten.length ≤ 300) := Lib.hid (by omega)
    have hkl : key.length ≤ 300 := by have := HN.out; omega
    have HKL := Lib.hid hkl
    have HV1 := Lib.hid (HV.out.below hb1 (Nat.le_refl _))
    have HK1 := Lib.hid (HK.out.below hb1 (Nat.le_refl _))
    clear hlen HS hkl
    go_wp2_with (first
      | (go_at_call 9; refine (alikeCat_any _ L _ HV1.out (by have := HLE.out; omega)).mono ?_; rintro e w2 ⟨v2, rfl, hO2, hb2⟩
         have hb02 := hb1.trans (hb2.mono hb1.size)
         have HK2 := Lib.hid (HK1.out.below hb2 (Nat.le_refl _))
         have hB2 := hO2.bs
         clear hO2 hb2)
      | (go_at_call 8; refine (refMac_any _ _ key _ _ HK2.out (by have := HKL.out; omega) hB2 (by have := HLE.out; omega)).mono ?_; rintro e w3 ⟨v3, rfl, hO3, hb3⟩
         have hb03 := hb02.trans (hb3.mono hb02.size)
         have hB3 := hO3.bs
         obtain ⟨a3, n3, c3, rfl, e3, f3, g3, hB3⟩ := hB3.shape
         have t3 := hB3.conv
         clear hO3 hb3 hB2 HK2 hB3)
      | (go_at_call 10; refine (newKey_any _ key _ (HK.out.below hb03 (Nat.le_refl _)) (by have := HKL.out; omega)).mono ?_; rintro e w4 ⟨y4, rfl, hy4, hK4, hb4⟩
         have hb04 := hb03.trans (hb4.mono hb03.size)
         clear hb4)
      | (go_at_call 12; refine (mac_any _ _ key L _ (HK.out.below hb04 (Nat.le_refl _)) (by have := HKL.out; omega) (HV.out.below hb04 (Nat.le_refl _)) (by have := HLE.out; omega)).mono ?_; rintro e w5 ⟨v5, rfl, hB5, hb5⟩
         have hb05 := hb04.trans (hb5.mono hb04.size)
         have hK5 := hK4.below hb5 (Nat.le_refl _)
         obtain ⟨a5, n5, c5, rfl, e5, f5, g5, hB5⟩ := hB5.shape
         have t5 := hB5.conv
         clear hb5 hB5)
      | (go_at_call 11
         first
           | (refine (kmac_any y4 key _ L _ hK5 (HV.out.below hb05 (Nat.le_refl _)) (by have := HLE.out; omega)).mono ?_; rintro e w6 ⟨v6, rfl, hO6, hb6⟩
              have hb06 := hb05.trans (hb6.mono hb05.size)
              have hK6 := hK5.below hb6 (Nat.le_refl _)
              have hB6 := hO6.bs
              obtain ⟨a6, n6, c6, rfl, e6, f6, g6, hB6⟩ := hB6.shape
              have t6 := hB6.conv
              clear hb6 hB6 hO6 hK5)
           | (refine (kmac_any y4 key _ L _ hK6 (HV.out.below hb06 (Nat.le_refl _)) (by have := HLE.out; omega)).mono ?_; rintro e w7 ⟨v7, rfl, hO7, hb7⟩
              have hb07 := hb06.trans (hb7.mono hb06.size)
              have hB7 := hO7.bs
              obtain ⟨a7, n7, c7, rfl, e7, f7, g7, hB7⟩ := hB7.shape
              have t7 := hB7.conv
              clear hb7 hB7 hO7 hK6)
           | (refine (kmacNil_any _ _).mono ?_; rintro e w8 ⟨rfl, rfl⟩))
      | (go_at_call 7; refine (awake4_any _).mono ?_; rintro e w9 ⟨rfl, hb9⟩
         have hb09 := hb07.trans (hb9.mono hb07.size)))
    go_ret
    exact ⟨rfl, hb09⟩
end Go.Proofs.Ytladojcbbhphfaa
