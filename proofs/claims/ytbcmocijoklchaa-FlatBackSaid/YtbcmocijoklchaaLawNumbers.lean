/- missivelaw1.FlatNumbers: the walk. -/
import Derived.Test.YtbcmocijoklchaaEq
import Derived.Test.YtbcmocijoklchaaFlip
import Derived.BigQuiet
import Derived.WalkSmall
import Derived.Deep.QuietTactic
namespace Go.Proofs.Ytbcmocijoklchaa
open Go.RowKit Go.Deep

theorem gAt_256 (n k j : Nat) : gAt n k j = n / 256 ^ (k - 1 - j) % 256 := by
  unfold gAt; rw [Nat.pow_mul]
theorem byteAt_big (n k j : Nat) (l : List UInt8) (hj : j < k) : byteAt (bigB n k ++ l) j = n / 256 ^ (k - 1 - j) % 256 := by
  have h : j < (bigB n k ++ l).length := by simp [bigB_length]; omega
  rw [← gAt_256]
  unfold byteAt
  rw [List.getD_eq_getElem?_getD, List.getElem?_eq_getElem h, List.getElem_append_left (by rw [bigB_length]; exact hj)]
  simp [bigB, gAt]
theorem numB_big (n k : Nat) (l : List UInt8) : ∀ j, j ≤ k → numB (bigB n k ++ l) j = n / 256 ^ (k - j) % 256 ^ j
  | 0, _ => by simp [numB, Nat.mod_one]
  | j + 1, h => by
    rw [numB, numB_big n k l j (by omega), byteAt_big n k j l (by omega)]
    have e : k - j = (k - 1 - j) + 1 := by omega
    have e2 : k - (j + 1) = k - 1 - j := by omega
    rw [e, e2, Nat.pow_succ 256 (k - 1 - j), ← Nat.div_div_eq_div_mul, Nat.pow_succ 256 j, Nat.mul_comm (256 ^ j) 256, Nat.mod_mul]
    omega
theorem numB_big8 (n : Nat) (l : List UInt8) (hn : n < 2 ^ 64) : numB (bigB n 8 ++ l) 8 = n := by
  rw [numB_big n 8 l 8 (by omega)]
  simp
  omega
theorem numB_take (l : List UInt8) (k : Nat) : ∀ j, j ≤ k → numB (l.take k) j = numB l j
  | 0, _ => rfl
  | j + 1, h => by
    rw [numB, numB, numB_take l k j (by omega)]
    congr 1
    unfold byteAt
    simp [List.getElem?_take, show j < k from h]
theorem numB_zero (l : List UInt8) (k : Nat) : ∀ j, numB (l.take k) (k + j) = numB l k * 256 ^ j
  | 0 => by simp [numB_take l k k (Nat.le_refl _)]
  | j + 1 => by
    rw [← Nat.add_assoc, numB, numB_zero l k j]
    have : byteAt (l.take k) (k + j) = 0 := by
      unfold byteAt
      rw [List.getD_eq_getElem?_getD, List.getElem?_take, if_neg (by omega)]
      rfl
    rw [this, Nat.pow_succ, Nat.mul_assoc]; omega
/-- A number of which only the first k bytes are laid. -/
theorem numB_cut (n k : Nat) (hn : n < 2 ^ 64) (hk : k ≤ 8) : numB ((bigB n 8).take k) 8 = n / 2 ^ (64 - 8 * k) * 2 ^ (64 - 8 * k) := by
  have h := numB_zero (bigB n 8) k (8 - k)
  have h2 := numB_big n 8 [] k hk
  rw [List.append_nil] at h2
  rw [show k + (8 - k) = 8 by omega] at h
  rw [h, h2]
  have e : 2 ^ (64 - 8 * k) = 256 ^ (8 - k) := by
    rw [show 64 - 8 * k = 8 * (8 - k) by omega, Nat.pow_mul]
  rw [e]
  congr 1
  refine Nat.mod_eq_of_lt ?_
  rw [Nat.div_lt_iff_lt_mul (Nat.pow_pos (by omega)), ← Nat.pow_add, show k + (8 - k) = 8 by omega]
  exact hn

theorem gAt_ne (n j : Nat) (hj : j < 8) : (((gAt n 8 j : Nat) : Int) != (n : Int) / 2 ^ (56 - 8 * j) % 256) = false := by
  unfold gAt
  rw [show 8 * (8 - 1 - j) = 56 - 8 * j by omega]
  simp

theorem wrap_cut (n k : Nat) (hn : n < 2 ^ 64) : IntKind.u64.wrap ((n : Int) / 2 ^ (64 - 8 * k) * 2 ^ (64 - 8 * k)) = ((n / 2 ^ (64 - 8 * k) * 2 ^ (64 - 8 * k) : Nat) : Int) := by
  have h : n / 2 ^ (64 - 8 * k) * 2 ^ (64 - 8 * k) ≤ n := Nat.div_mul_le_self _ _
  have e : (n : Int) / 2 ^ (64 - 8 * k) * 2 ^ (64 - 8 * k) = ((n / 2 ^ (64 - 8 * k) * 2 ^ (64 - 8 * k) : Nat) : Int) := by simp
  rw [e]
  generalize n / 2 ^ (64 - 8 * k) * 2 ^ (64 - 8 * k) = m at h
  exact IntWalk.u64_in _ ⟨by omega, by omega⟩

set_option maxHeartbeats 1600000 in
theorem law_flatNumbers (w : World) (x : Int) (hx : (Lit.int .u64 x).wf = true) (v : Value) (l : List UInt8) (hv : Bs w v l) (cut : Int) (hcut : (Lit.int .i64 cut).wf = true) :
    Calls Try.prog 7 #[.int .u64 x, v, .int .i64 cut] w fun e w' => e = .returned (.bool true) ∧ Below w.heap.size w w' := by
  obtain ⟨hk0, hk1⟩ := bd_i64 hcut
  obtain ⟨hx0, hx1⟩ := bd_u64 hx
  clear hx hcut
  obtain ⟨n, rfl⟩ := Int.eq_ofNat_of_zero_le hx0
  have hn : n < 2 ^ 64 := by omega
  have HN := Lib.hid hn
  clear hn hx0 hx1
  have HV := Lib.hid hv
  obtain ⟨a, cap, rfl, h1, h2, h3, h4⟩ := hv
  clear h3 h4
  unfold maxLen at h2
  by_cases c1 : 100 < l.length
  · have d1 : (100 : Int) < (l.length : Int) := by omega
    go_enter Try.func7, Try.ntmps7
    go_wp2_with fail
    refine (awake_any _).mono ?_
    rintro e w1 ⟨rfl, hb⟩
    go_wp2
    go_ret
    exact ⟨rfl, hb⟩
  have d1 : ¬ (100 : Int) < (l.length : Int) := by omega
  go_enter Try.func7, Try.ntmps7
  go_wp2_with fail
  refine (put64_any n _ HN.out).mono ?_
  rintro e w1 ⟨v1, rfl, hB1, hb1⟩
  go_wp2_with fail
  refine (little64_any n _ HN.out).mono ?_
  rintro e w2 ⟨v2, rfl, hB2, hb2⟩
  have hL2 := HV.out.below (hb1.trans (hb2.mono hb1.size)) (Nat.le_refl _)
  have hB1' := hB1.below hb2 (Nat.le_refl _)
  have B2 : Below w.heap.size w w2 := hb1.trans (hb2.mono hb1.size)
  clear hb1 hb2 hB1
  have HB1 := Lib.hid hB1'
  have HB2 := Lib.hid hB2
  obtain ⟨b1, o1, cp1, rfl, g1, g2, g3, hc1⟩ := hB1'.open_n (bigB_length n 8) (by omega)
  obtain ⟨b2, o2, cp2, rfl, g4, g5, g6, hc2⟩ := hB2.open_n (litB_length n 8) (by omega)
  clear hB2
  have HC := Lib.hid (show (∀ i (h : i < (bigB n 8).length), w2.cell? ⟨b1, o1 + i, none⟩ = some (.int .u8 (((bigB n 8)[i]).toNat : Int))) ∧ (∀ i (h : i < (litB n 8).length), w2.cell? ⟨b2, o2 + i, none⟩ = some (.int .u8 (((litB n 8)[i]).toNat : Int))) from ⟨hc1, hc2⟩)
  clear hc1 hc2
  have HR := Lib.hid (Bss.two HB1.out hL2 (n := w2.heap.size) rfl)
  clear hL2
  go_wp2_with fail
  refine (cat_any _ [bigB n 8, l] _ HR.out (by simp [bigB_length]; omega)).mono ?_
  rintro e w3 ⟨v3, rfl, ho3, hb3⟩
  have B23 : Below w2.heap.size w2 w3 := ((Below.refl _ _).alloc (Nat.le_refl _) _).trans (hb3.mono (by simp))
  have B3 : Below w.heap.size w w3 := B2.trans (B23.mono B2.size)
  clear HR hb3 B2
  have hnum : numB [bigB n 8, l].flatten 8 = n := by simpa using numB_big8 n l HN.out
  have HM := Lib.hid hnum
  clear hnum
  go_wp2_with fail
  refine (get64_any _ _ _ ho3.bs).mono ?_
  rintro e w4 ⟨rfl, rfl⟩
  rw [HM.out]
  clear ho3 HM
  obtain ⟨wo, hwo⟩ : ∃ wo : World, wo = w4 := ⟨_, rfl⟩
  have hc1 : ∀ i, i < 8 → wo.cell? ⟨b1, o1 + i, none⟩ = some (.int .u8 ((gAt n 8 i : Nat) : Int)) := fun i hi => by
    rw [hwo, B23.cell (by exact g3), HC.out.1 i (by rw [bigB_length]; exact hi)]
    simp [bigB, gAt]
  have hc2 : ∀ i, i < 8 → wo.cell? ⟨b2, o2 + (7 - i), none⟩ = some (.int .u8 ((gAt n 8 i : Nat) : Int)) := fun i hi => by
    rw [hwo, B23.cell (by exact g6), HC.out.2 (7 - i) (by rw [litB_length]; omega)]
    simp [litB, gAt]
  have hHB : Bs wo (.slice (some ⟨b1, o1, none⟩) 8 cp1) (bigB n 8) := by rw [hwo]; exact HB1.out.below B23 (Nat.le_refl _)
  have HC2 := Lib.hid (And.intro hc1 hc2)
  have hbo : Below wo.heap.size wo w4 := by rw [hwo]; exact Below.refl _ _
  have hBo : Below w.heap.size w wo := by rw [hwo]; exact B3
  have l1 : b1 < wo.heap.size := by have := B23.size; rw [hwo]; omega
  have l2 : b2 < wo.heap.size := by have := B23.size; rw [hwo]; omega
  clear hc1 hc2 HC hwo B23 B3 HB1 HB2
  go_wp2_with fail
  go_loopw [9] (fun i wr => ∃ j : Nat, j ≤ 8 ∧ i = .int .i64 j ∧ Below wo.heap.size wo wr) (fun i _ => 8 - (intOf i).toNat)
  case atStart => exact ⟨0, Nat.zero_le _, rfl, hbo⟩
  case round =>
    obtain ⟨j, hj, rfl, hbr⟩ := hrel
    clear hbo
    by_cases hlt : j < 8
    · have hcj1 : wr.cell? ⟨b1, o1 + j, none⟩ = some (.int .u8 ((gAt n 8 j : Nat) : Int)) := (hbr.cell (by exact l1)).trans (HC2.out.1 j hlt)
      have hcj2 : wr.cell? ⟨b2, o2 + (7 - j), none⟩ = some (.int .u8 ((gAt n 8 j : Nat) : Int)) := (hbr.cell (by exact l2)).trans (HC2.out.2 j hlt)
      have hi1 : 0 ≤ (j : Int) ∧ (j : Int) < 8 := by omega
      have hi2 : 0 ≤ 7 - (j : Int) ∧ 7 - (j : Int) < 8 := by omega
      have hi3 : 0 ≤ 56 - 8 * (j : Int) := by omega
      have hne := gAt_ne n j hlt
      generalize gAt n 8 j = g at *
      go_wp2_with fail
      go_quiet (fail)
      go_wp2
      go_roundw
      case rel => exact ⟨j + 1, by omega, by go_num, below_drewN hbr _⟩
      case measure => simp [intOf]; omega
    · obtain rfl : j = 8 := by omega
      have hm0 := Int.emod_nonneg cut (b := 9) (by omega)
      have hm1 := Int.emod_lt_of_pos cut (b := 9) (by omega)
      have hBr := hHB.below hbr (Nat.le_refl _)
      have B5 : Below w.heap.size w wr := hBo.trans (hbr.mono hBo.size)
      clear hbr hHB hBo
      go_wp2_with fail
      refine (round_any cut 9 _ hk0 hk1 (by omega) (by omega)).mono ?_
      rintro e w5 ⟨rfl, rfl⟩
      generalize cut % 9 = r at *
      obtain ⟨k, rfl⟩ := Int.eq_ofNat_of_zero_le hm0
      have hT := Bs.take hBr (k := k) (by omega)
      have hcutk := numB_cut n k HN.out (by omega)
      clear hBr
      by_cases hk : k < 8
      · have hw := wrap_cut n k HN.out
        generalize n / 2 ^ (64 - 8 * k) * 2 ^ (64 - 8 * k) = M at *
        have HK := Lib.hid hcutk
        clear hcutk
        go_wp2_with fail
        refine (get64_any _ _ _ hT).mono ?_
        rintro e w6 ⟨rfl, rfl⟩
        rw [HK.out]
        clear HK
        go_wp2_with fail
        refine (awake_any _).mono ?_
        rintro e w7 ⟨rfl, hb7⟩
        go_wp2
        go_ret
        exact ⟨rfl, B5.trans (hb7.mono B5.size)⟩
      · obtain rfl : k = 8 := by omega
        have hcutk' : numB ((bigB n 8).take 8) 8 = n := by rw [hcutk]; simp
        go_wp2_with fail
        refine (get64_any _ _ _ hT).mono ?_
        rintro e w6 ⟨rfl, rfl⟩
        rw [hcutk']
        clear hcutk hcutk'
        go_wp2_with fail
        refine (awake_any _).mono ?_
        rintro e w7 ⟨rfl, hb7⟩
        go_wp2
        go_ret
        exact ⟨rfl, B5.trans (hb7.mono B5.size)⟩
end Go.Proofs.Ytbcmocijoklchaa
