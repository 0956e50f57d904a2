/- missivelaw1.FlatHex: the walk. -/
import Derived.Test.YtbcmocijoklchaaRefUnhex
import Derived.Test.YtbcmocijoklchaaEq
namespace Go.Proofs.Ytbcmocijoklchaa
open Go.RowKit Go.Deep

theorem digVal_hexDig : ∀ n, n < 16 → digVal (hexDig n) = (n : Int) := by decide +kernel

theorem flat_hi : ∀ (l : List UInt8) (i : Nat), i < l.length → (l.flatMap hexOne).getD (2 * i) 0 = hexDig ((l.getD i 0).toNat / 16) ∧ (l.flatMap hexOne).getD (2 * i + 1) 0 = hexDig ((l.getD i 0).toNat % 16)
  | [], i, h => by simp at h
  | b :: t, 0, _ => by simp [hexOne]
  | b :: t, i + 1, h => by
    have ih := flat_hi t i (by simpa using h)
    have e : (b :: t).flatMap hexOne = hexDig (b.toNat / 16) :: hexDig (b.toNat % 16) :: t.flatMap hexOne := by simp [hexOne]
    rw [e, show 2 * (i + 1) = 2 * i + 1 + 1 by omega]
    simpa using ih
theorem hexTo_full (l : List UInt8) : hexTo l l.length = l.flatMap hexOne := by unfold hexTo; rw [List.take_length]
theorem hex_pair (l : List UInt8) (i : Nat) (h : i < l.length) : hiV (hexTo l l.length) i = ((l.getD i 0).toNat / 16 : Nat) ∧ loV (hexTo l l.length) i = ((l.getD i 0).toNat % 16 : Nat) := by
  have hb := UInt8.toNat_lt (l.getD i 0)
  have hh := flat_hi l i h
  rw [hexTo_full]
  unfold hiV loV
  rw [hh.1, hh.2, digVal_hexDig _ (by omega), digVal_hexDig _ (by omega)]
  exact ⟨rfl, rfl⟩
theorem hexTo_len (l : List UInt8) : (hexTo l l.length).length = 2 * l.length := hexTo_length l _ (Nat.le_refl _)
theorem hex_ok (l : List UInt8) : hexOk (hexTo l l.length) := by
  refine ⟨by rw [hexTo_len]; omega, fun i hi => ?_⟩
  rw [hexTo_len] at hi
  have h := hex_pair l i (by omega)
  unfold pairOk
  rw [h.1, h.2]
  omega
theorem hex_back (l : List UInt8) : unhexB (hexTo l l.length) = l := by
  apply List.ext_getElem
  · rw [unhexB_length, hexTo_len]; omega
  · intro i h1 h2
    have h := hex_pair l i h2
    have hb := UInt8.toNat_lt (l[i])
    have e : l.getD i 0 = l[i] := by simp [h2]
    rw [e] at h
    have hp : pairV (hexTo l l.length) i = (l[i]).toNat := by
      unfold pairV; rw [h.1, h.2]; omega
    simp [unhexB, hp]

set_option maxHeartbeats 3200000 in
theorem law_flatHex (w : World) (v : Value) (l : List UInt8) (hv : Bs w v l) (s : ByteArray) (_hs : s.size ≤ maxLen) :
    Calls Try.prog 4 #[v, .string s] w fun e w' => e = .returned (.bool true) ∧ Below w.heap.size w w' := by
  obtain ⟨a1, n, cap, rfl, hn, h1, h2, hv⟩ := hv.shape
  have HV := Lib.hid hv
  have HN := Lib.hid hn
  clear hv hn
  by_cases c1 : 3000 < n
  · have d1 : (3000 : Int) < (n : Int) := by omega
    go_enter Try.func4, Try.ntmps4
    go_wp2_with fail
    refine (awake_any _).mono ?_
    rintro e w1 ⟨rfl, hb⟩
    go_wp2
    go_ret
    exact ⟨rfl, hb⟩
  have d1 : ¬ (3000 : Int) < (n : Int) := by omega
  by_cases c2 : 3000 < s.size
  · have d2 : (3000 : Int) < (s.size : Int) := by omega
    go_enter Try.func4, Try.ntmps4
    go_wp2_with fail
    refine (awake_any _).mono ?_
    rintro e w1 ⟨rfl, hb⟩
    go_wp2
    go_ret
    exact ⟨rfl, hb⟩
  have d2 : ¬ (3000 : Int) < (s.size : Int) := by omega
  have HHL : Hid ((hexTo l n).length = 2 * n ∧ hexOk (hexTo l n) ∧ unhexB (hexTo l n) = l) := Lib.hid (by rw [← HN.out]; exact ⟨hexTo_len l, hex_ok l, hex_back l⟩)
  go_enter Try.func4, Try.ntmps4
  go_wp2_with fail
  refine (unhex_any s _ (by omega)).mono ?_
  rintro e w1 ⟨b1, hp1⟩
  have P1 := Lib.hid hp1
  clear hp1
  by_cases hok : hexOk s.data.toList
  · have hp := P1.out
    rcases hp with ⟨_, v1, rfl, hB1⟩ | ⟨hno, _⟩
    · have HB1 := Lib.hid hB1
      have HOK := Lib.hid hok
      clear hok P1 hB1
      go_wp2_with fail
      refine (refUnhex_any s _ (by omega)).mono ?_
      rintro e w2 ⟨b2, hp2⟩
      rcases hp2 with ⟨_, v2, rfl, hB2⟩ | ⟨hno, _⟩
      · have B2 : Below w.heap.size w w2 := b1.trans (b2.mono b1.size)
        have K1 := Lib.hid (HB1.out.below b2 (Nat.le_refl _))
        have K2 := Lib.hid hB2
        have A2 := HV.out.below B2 (Nat.le_refl _)
        clear b1 b2 hB2 HB1
        go_wp2_with fail
        refine (hex_any _ l _ A2 (by rw [HN.out]; omega)).mono ?_
        rintro e w3 ⟨rfl, b3⟩
        rw [HN.out]
        have B3 : Below w.heap.size w w3 := B2.trans (b3.mono B2.size)
        have K1 := Lib.hid (K1.out.below b3 (Nat.le_refl _))
        have K2 := Lib.hid (K2.out.below b3 (Nat.le_refl _))
        clear B2 b3 A2
        go_wp2_with fail
        refine (unhex_any _ _ (by show (hexTo l n).toArray.size ≤ _; rw [List.size_toArray, HHL.out.1]; omega)).mono ?_
        rintro e w4 ⟨b4, hp4⟩
        rcases hp4 with ⟨_, v4, rfl, hB4⟩ | ⟨hno, _⟩
        · have hB4' : Bs w4 v4 l := by have := HHL.out.2.2; simp only [List.toList_toArray] at hB4; rwa [this] at hB4
          have B4 : Below w.heap.size w w4 := B3.trans (b4.mono B3.size)
          have k1 := (K1.out.below b4 (Nat.le_refl _)).conv
          have k2 := (K2.out.below b4 (Nat.le_refl _)).conv
          have A4 := HV.out.below B4 (Nat.le_refl _)
          have K4 := Lib.hid hB4'
          clear hB4 b4 B3 hB4'
          go_wp2_with fail
          refine (hex_any _ l _ A4 (by rw [HN.out]; omega)).mono ?_
          rintro e w5 ⟨rfl, b5⟩
          rw [HN.out]
          have B5 : Below w.heap.size w w5 := B4.trans (b5.mono B4.size)
          have A5 := HV.out.below B5 (Nat.le_refl _)
          have K4 := Lib.hid (K4.out.below b5 (Nat.le_refl _))
          clear B4 b5 A4 k1 k2
          go_wp2_with fail
          refine (refHex_any _ l _ A5 (by rw [HN.out]; omega)).mono ?_
          rintro e w6 ⟨rfl, b6⟩
          rw [HN.out]
          have B6 : Below w.heap.size w w6 := B5.trans (b6.mono B5.size)
          have k3 := (HV.out.below B6 (Nat.le_refl _)).conv
          have k4 := (K4.out.below b6 (Nat.le_refl _)).conv
          clear B5 b6 A5
          go_wp2_with fail
          refine (awake_any _).mono ?_
          rintro e w7 ⟨rfl, b7⟩
          go_wp2
          go_ret
          exact ⟨rfl, B6.trans (b7.mono B6.size)⟩
        · exact absurd HHL.out.2.1 (by simpa using hno)
      · exact absurd HOK.out hno
    · exact absurd hok hno
  · have hp := P1.out
    rcases hp with ⟨hyes, _⟩ | ⟨_, rfl⟩
    · exact absurd hyes hok
    · have HB1 := Lib.hid (Bs.nil w1)
      have HOK := Lib.hid hok
      clear hok P1
      go_wp2_with fail
      refine (refUnhex_any s _ (by omega)).mono ?_
      rintro e w2 ⟨b2, hp2⟩
      rcases hp2 with ⟨hyes, _⟩ | ⟨_, rfl⟩
      · exact absurd hyes HOK.out
      · have B2 : Below w.heap.size w w2 := b1.trans (b2.mono b1.size)
        have K1 := Lib.hid (HB1.out.below b2 (Nat.le_refl _))
        have K2 := Lib.hid (Bs.nil w2)
        have A2 := HV.out.below B2 (Nat.le_refl _)
        clear b1 b2 HB1
        go_wp2_with fail
        refine (hex_any _ l _ A2 (by rw [HN.out]; omega)).mono ?_
        rintro e w3 ⟨rfl, b3⟩
        rw [HN.out]
        have B3 : Below w.heap.size w w3 := B2.trans (b3.mono B2.size)
        have K1 := Lib.hid (K1.out.below b3 (Nat.le_refl _))
        have K2 := Lib.hid (K2.out.below b3 (Nat.le_refl _))
        clear B2 b3 A2
        go_wp2_with fail
        refine (unhex_any _ _ (by show (hexTo l n).toArray.size ≤ _; rw [List.size_toArray, HHL.out.1]; omega)).mono ?_
        rintro e w4 ⟨b4, hp4⟩
        rcases hp4 with ⟨_, v4, rfl, hB4⟩ | ⟨hno, _⟩
        · have hB4' : Bs w4 v4 l := by have := HHL.out.2.2; simp only [List.toList_toArray] at hB4; rwa [this] at hB4
          have B4 : Below w.heap.size w w4 := B3.trans (b4.mono B3.size)
          have k1 := (K1.out.below b4 (Nat.le_refl _)).conv
          have k2 := (K2.out.below b4 (Nat.le_refl _)).conv
          have A4 := HV.out.below B4 (Nat.le_refl _)
          have K4 := Lib.hid hB4'
          clear hB4 b4 B3 hB4'
          go_wp2_with fail
          refine (hex_any _ l _ A4 (by rw [HN.out]; omega)).mono ?_
          rintro e w5 ⟨rfl, b5⟩
          rw [HN.out]
          have B5 : Below w.heap.size w w5 := B4.trans (b5.mono B4.size)
          have A5 := HV.out.below B5 (Nat.le_refl _)
          have K4 := Lib.hid (K4.out.below b5 (Nat.le_refl _))
          clear B4 b5 A4 k1 k2
          go_wp2_with fail
          refine (refHex_any _ l _ A5 (by rw [HN.out]; omega)).mono ?_
          rintro e w6 ⟨rfl, b6⟩
          rw [HN.out]
          have B6 : Below w.heap.size w w6 := B5.trans (b6.mono B5.size)
          have k3 := (HV.out.below B6 (Nat.le_refl _)).conv
          have k4 := (K4.out.below b6 (Nat.le_refl _)).conv
          clear B5 b6 A5
          go_wp2_with fail
          refine (awake_any _).mono ?_
          rintro e w7 ⟨rfl, b7⟩
          go_wp2
          go_ret
          exact ⟨rfl, B6.trans (b7.mono B6.size)⟩
        · exact absurd HHL.out.2.1 (by simpa using hno)
end Go.Proofs.Ytbcmocijoklchaa
