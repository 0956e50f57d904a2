/- Rows one behind the other: flat.Cat, missivealike.Cat. -/
import Derived.Test.YtbcmocijoklchaaOwn
namespace Go.Proofs.Ytbcmocijoklchaa
open Go.RowKit Go.Deep

/-- The first j rows, one behind the other. -/
def catTo (L : List (List UInt8)) (j : Nat) : List UInt8 := (L.take j).flatten
theorem catTo_succ (L : List (List UInt8)) (j : Nat) (h : j < L.length) : catTo L (j + 1) = catTo L j ++ L[j] := by
  unfold catTo
  rw [List.take_succ_eq_append_getElem h, List.flatten_append]
  simp
theorem catTo_all (L : List (List UInt8)) (j : Nat) (h : L.length ≤ j) : catTo L j = L.flatten := by
  unfold catTo; rw [List.take_of_length_le h]
theorem catTo_le (L : List (List UInt8)) (j : Nat) : (catTo L j).length ≤ L.flatten.length := by
  have : L.flatten = catTo L j ++ (L.drop j).flatten := by unfold catTo; rw [← List.flatten_append, List.take_append_drop]
  rw [this, List.length_append]; omega

set_option maxHeartbeats 800000 in
theorem cat_any (v : Value) (L : List (List UInt8)) (w : World) (hv : Bss w v L) (hlen : L.flatten.length ≤ 2147483647) :
    Calls Try.prog 14 #[v] w fun e w' => ∃ v', e = .returned v' ∧ Owns w' w.heap.size v' L.flatten ∧ Below w.heap.size w w' := by
  have HV := Lib.hid hv
  obtain ⟨a, cap, rfl, h1, h2, h3, h4⟩ := hv
  clear h3 h4
  unfold maxLen at h2
  obtain ⟨i0, hi, hz0, hz1, hz2⟩ := info_parts Try.info5
  go_enter Try.func14, Try.ntmps14
  go_wp2
  go_loop [3, 11] (fun s i => ∃ j : Nat, j ≤ L.length ∧ i = .int .i64 j ∧ s = .int .i64 ((catTo L j).length : Nat)) (fun _ i => L.length - (intOf i).toNat)
  case atStart => exact ⟨0, Nat.zero_le _, rfl, rfl⟩
  case round =>
    obtain ⟨j, hj, rfl, rfl⟩ := hrel
    by_cases hlt : j < L.length
    · have hle := catTo_le L (j + 1)
      have hsucc := congrArg List.length (catTo_succ L j hlt)
      rw [List.length_append] at hsucc
      have hle2 : (catTo L j).length + L[j].length ≤ 2147483647 := by omega
      have HS := Lib.hid hsucc
      clear hsucc hle
      obtain ⟨b, off, cap', he, _, _, _, hc⟩ := HV.out.open_cons (by omega)
      cases he
      obtain ⟨u, hcj, hu⟩ := hc j hlt
      clear hc
      obtain ⟨au, cu, rfl, _, _, _, _⟩ := hu
      go_wp2
      go_round
      case rel => exact ⟨j + 1, by omega, by go_num, by rw [HS.out]; go_num⟩
      case measure => simp [intOf]; omega
    · obtain rfl : j = L.length := by omega
      have hall := catTo_all L L.length (Nat.le_refl _)
      rw [hall]
      clear hall
      generalize hn : L.flatten.length = n at *
      have HN := Lib.hid hn
      clear hn
      go_wp2_with (refine wpList_make_own _ rfl _ _ 22 rfl w.heap.size 5 i0 (.int .u8 0) 1 Try.underlying22 hi hz0 hz1 .i64 .i64 _ n rfl rfl rfl (by rw [hz2]; omega) (by unfold maxLen; omega) (Nat.le_refl _) ?_; intro w1 hown1 hgrow1)
      have hO : Owns w1 w.heap.size (.slice (some ⟨w.heap.size, 0, none⟩) 0 n) [] := hown1
      have hB1 : Below w.heap.size w w1 := (Below.refl _ _).grown hgrow1 (Nat.le_refl _) (fun k hk => by cases hk)
      clear hown1 hgrow1
      go_loopw [6, 24] (fun v i wr => ∃ j : Nat, j ≤ L.length ∧ i = .int .i64 j ∧ Owns wr w.heap.size v (catTo L j) ∧ Below w.heap.size w wr) (fun _ i _ => L.length - (intOf i).toNat)
      case atStart => exact ⟨0, Nat.zero_le _, rfl, hO, hB1⟩
      case round =>
        obtain ⟨j, hj, rfl, hown, hbel⟩ := hrel
        clear hO hB1
        by_cases hlt : j < L.length
        · have hsum : (catTo L j).length + L[j].length ≤ n := by
            have := catTo_le L (j + 1)
            rw [catTo_succ L j hlt, List.length_append] at this
            have := HN.out
            omega
          obtain ⟨b, off, cap', he, _, _, hbl, hc⟩ := HV.out.open_cons (by omega)
          cases he
          obtain ⟨u, hcj, hu⟩ := hc j hlt
          clear hc
          have hcr : wr.cell? ⟨b, off + j, none⟩ = some u := (hbel.cell (by exact hbl)).trans hcj
          have hur : Bs wr u L[j] := hu.below hbel (Nat.le_refl _)
          have HU := Lib.hid hur
          obtain ⟨au, cu, rfl, _, _, _, _⟩ := hu
          clear hur
          go_wp2_with (refine wpList_app rfl _ _ rfl w.heap.size _ _ (catTo L j) L[j] hown HU.out rfl rfl (by omega) (by have := hbel.size; omega) ?_; intro v2 w2 hown2 hgrow2)
          have hown3 : Owns w2 w.heap.size v2 (catTo L (j + 1)) := by rw [catTo_succ L j hlt]; exact hown2
          have hbel3 : Below w.heap.size w w2 := hbel.grown hgrow2 hbel.size (Owns.block hown)
          clear hown2 hgrow2 hown hbel hcr HU hsum
          go_wp2
          go_roundw
          case rel => exact ⟨j + 1, by omega, by go_num, hown3, hbel3⟩
          case measure => simp [intOf]; omega
        · obtain rfl : j = L.length := by omega
          go_wp2
          go_ret
          exact ⟨_, rfl, by rw [← catTo_all L L.length (Nat.le_refl _)]; exact hown, hbel⟩
end Go.Proofs.Ytbcmocijoklchaa
