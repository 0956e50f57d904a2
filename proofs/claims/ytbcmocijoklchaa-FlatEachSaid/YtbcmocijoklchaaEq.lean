/- flat.Equal; missivealike.Cat; missivelaw1.awake. -/
import Derived.Test.YtbcmocijoklchaaHex
import Derived.Test.YtbcmocijoklchaaRead
namespace Go.Proofs.Ytbcmocijoklchaa
open Go.RowKit Go.Deep

set_option maxHeartbeats 400000 in
theorem bytesEqual_any (v1 v2 : Value) (l1 l2 : List UInt8) (w : World) (h1 : Bs w v1 l1) (h2 : Bs w v2 l2) :
    Calls Try.prog 35 #[v1, v2] w fun e w' => e = .returned (.bool (l1 == l2)) ∧ w' = w := by
  have c1 := h1.conv
  have c2 := h2.conv
  clear h1 h2
  go_enter Try.func35, Try.ntmps35
  go_wp2
  go_ret
  exact ⟨rfl, rfl⟩

set_option maxHeartbeats 400000 in
theorem equal_any (v1 v2 : Value) (l1 l2 : List UInt8) (w : World) (h1 : Bs w v1 l1) (h2 : Bs w v2 l2) :
    Calls Try.prog 11 #[v1, v2] w fun e w' => e = .returned (.bool (l1 == l2)) ∧ w' = w := by
  go_enter Try.func11, Try.ntmps11
  go_wp2_with fail
  refine (bytesEqual_any v1 v2 l1 l2 _ h1 h2).mono ?_
  rintro e w' ⟨rfl, rfl⟩
  go_wp2
  go_ret
  exact ⟨rfl, rfl⟩

theorem equal_same (v1 v2 : Value) (l1 l2 : List UInt8) (w : World) (h1 : Bs w v1 l1) (h2 : Bs w v2 l2) (h : l1 = l2) :
    Calls Try.prog 11 #[v1, v2] w fun e w' => e = .returned (.bool true) ∧ w' = w :=
  (equal_any v1 v2 l1 l2 w h1 h2).mono fun e w' ⟨he, hw⟩ => ⟨by rw [he, h]; simp, hw⟩
theorem equal_diff (v1 v2 : Value) (l1 l2 : List UInt8) (w : World) (h1 : Bs w v1 l1) (h2 : Bs w v2 l2) (h : l1 ≠ l2) :
    Calls Try.prog 11 #[v1, v2] w fun e w' => e = .returned (.bool false) ∧ w' = w :=
  (equal_any v1 v2 l1 l2 w h1 h2).mono fun e w' ⟨he, hw⟩ => ⟨by rw [he, beq_eq_false_iff_ne.2 h], hw⟩

set_option maxHeartbeats 800000 in
theorem alikeCat_any (v : Value) (L : List (List UInt8)) (w : World) (hv : Bss w v L) (hlen : L.flatten.length ≤ 2147483647) :
    Calls Try.prog 15 #[v] w fun e w' => ∃ v', e = .returned v' ∧ Owns w' w.heap.size v' L.flatten ∧ Below w.heap.size w w' := by
  have HV := Lib.hid hv
  obtain ⟨a, cap, rfl, h1, h2, h3, h4⟩ := hv
  clear h3 h4
  unfold maxLen at h2
  go_enter Try.func15, Try.ntmps15
  go_wp2
  generalize hn : L.flatten.length = n at *
  have HN := Lib.hid hn
  clear hn
  go_loopw [3, 4] (fun v i wr => ∃ j : Nat, j ≤ L.length ∧ i = .int .i64 j ∧ Owns wr w.heap.size v (catTo L j) ∧ Below w.heap.size w wr) (fun _ i _ => L.length - (intOf i).toNat)
  case atStart => exact ⟨0, Nat.zero_le _, rfl, Owns.nil _ _, Below.refl _ _⟩
  case round =>
    obtain ⟨j, hj, rfl, hown, hbel⟩ := hrel
    by_cases hlt : j < L.length
    · have hsum : (catTo L j).length + L[j].length ≤ n := by
        have := catTo_le L (j + 1)
        rw [catTo_succ L j hlt, List.length_append] at this
        have := HN.out
        omega
      obtain ⟨b, off, cap', he, _, _, hbl, hc⟩ := HV.out.open_cons (by omega)
      cases he
      obtain ⟨u, hcj, hu⟩ := hc j hlt
      clear hc
      have hcr : wr.cell? ⟨b, off + j, none⟩ = some u := (hbel.cell (by exact hbl)).trans hcj
      have hur : Bs wr u L[j] := hu.below hbel (Nat.le_refl _)
      have HU := Lib.hid hur
      obtain ⟨au, cu, rfl, _, _, _, _⟩ := hu
      clear hur
      go_wp2_with (refine wpList_app rfl _ _ rfl w.heap.size _ _ (catTo L j) L[j] hown HU.out rfl rfl (by omega) (by have := hbel.size; omega) ?_; intro v2 w2 hown2 hgrow2)
      have hown3 : Owns w2 w.heap.size v2 (catTo L (j + 1)) := by rw [catTo_succ L j hlt]; exact hown2
      have hbel3 : Below w.heap.size w w2 := hbel.grown hgrow2 hbel.size (Owns.block hown)
      clear hown2 hgrow2 hown hbel hcr HU hsum
      go_wp2
      go_roundw
      case rel => exact ⟨j + 1, by omega, by go_num, hown3, hbel3⟩
      case measure => simp [intOf]; omega
    · obtain rfl : j = L.length := by omega
      go_wp2
      go_ret
      exact ⟨_, rfl, by rw [← catTo_all L L.length (Nat.le_refl _)]; exact hown, hbel⟩

theorem bigB_258 : bigB 258 4 = [0, 0, 1, 2] := by decide
theorem hexTo_10 : hexTo [10] [(10 : UInt8)].length = [48, 97] := by decide

set_option maxHeartbeats 800000 in
theorem awake_any (w : World) : Calls Try.prog 10 #[] w fun e w' => e = .returned (.bool true) ∧ Below w.heap.size w w' := by
  go_enter Try.func10, Try.ntmps10
  go_wp2_with fail
  refine (put32_any 258 _ (by omega)).mono ?_
  rintro e w1 ⟨v1, rfl, hB1, hb1⟩
  have c1 := hB1.conv
  rw [bigB_258] at c1
  clear hB1
  go_wp2_with fail
  refine (hex_any _ [10] _ (Bs.one _ 10) (by simp)).mono ?_
  rintro e w2 ⟨rfl, hb2⟩
  rw [hexTo_10]
  go_wp2_with fail
  refine (equal_any _ _ [] [] _ (Bs.nil _) (Bs.nil _)).mono ?_
  rintro e w3 ⟨rfl, rfl⟩
  go_wp2
  go_ret
  refine ⟨rfl, ?_⟩
  exact (hb1.alloc hb1.size _).trans (hb2.mono (by have := hb1.size; simp; omega))
end Go.Proofs.Ytbcmocijoklchaa
