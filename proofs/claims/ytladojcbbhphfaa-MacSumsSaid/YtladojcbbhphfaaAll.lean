/- missivealike.Sum, missivealike.All: how many bytes rows have, held. -/
import Derived.Test.YtladojcbbhphfaaCat
namespace Go.Proofs.Ytladojcbbhphfaa
open Go.RowKit Go.Deep

/-- The slice value v reads as the ints xs, none of which is negative. -/
def Ns (w : World) (v : Value) (xs : List Nat) : Prop :=
  ∃ (b off cap : Nat), v = .slice (some ⟨b, off, none⟩) xs.length cap ∧ b < w.heap.size ∧ ∀ i (h : i < xs.length), w.cell? ⟨b, off + i, none⟩ = some (.int .i64 (xs[i] : Int))

theorem Ns.two (w : World) (x y : Nat) : Ns (w.alloc (.cells #[.int .i64 (x : Int), .int .i64 (y : Int)] 3)) (.slice (some ⟨w.heap.size, 0, none⟩) 2 2) [x, y] := by
  refine ⟨_, _, _, rfl, by simp, fun i hi => ?_⟩
  match i, hi with
  | 0, _ => exact World.cell?_alloc_mark w _ 3 (0, 0) 0
  | 1, _ => exact World.cell?_alloc_mark w _ 3 (0, 0) 1

def sumTo (xs : List Nat) (j : Nat) : Nat := (xs.take j).sum
theorem sumTo_succ (xs : List Nat) (j : Nat) (h : j < xs.length) : sumTo xs (j + 1) = sumTo xs j + xs[j] := by
  unfold sumTo
  rw [List.take_succ_eq_append_getElem h, List.sum_append]
  simp only [List.sum_cons, List.sum_nil, Nat.add_zero]

set_option maxHeartbeats 800000 in
theorem sum_any (n : Nat) (v : Value) (xs : List Nat) (w : World) (hv : Ns w v xs) (hn : n ≤ 1099511627776) (hxs : ∀ x ∈ xs, x ≤ 9223372036854775807) (hlen : xs.length ≤ 1000000) :
    Calls Try.prog 19 #[.int .i64 n, v] w fun e w' => ∃ s : Nat, e = .returned (.int .i64 s) ∧ s ≤ 1099511627776 ∧ (s < 1099511627776 → s = n + xs.sum) ∧ w' = w := by
  obtain ⟨b, off, cap, rfl, _, hc⟩ := hv
  have HC := Lib.hid hc
  have HX := Lib.hid hxs
  have hlen2 : (xs.length : Int) ≤ 1000000 := by omega
  have hall : sumTo xs xs.length = xs.sum := by unfold sumTo; rw [List.take_length]
  have HALL := Lib.hid hall
  clear hc hxs hall
  go_enter Try.func19, Try.ntmps19
  go_wp2
  go_loop [0, 5] (fun s i => ∃ (j m : Nat), j ≤ xs.length ∧ i = .int .i64 j ∧ s = .int .i64 m ∧ m ≤ 1099511627776 ∧ Hid (m = n + sumTo xs j)) (fun _ i => xs.length - (intOf i).toNat)
  case atStart => exact ⟨0, n, Nat.zero_le _, rfl, rfl, hn, Lib.hid (by simp [sumTo])⟩
  case round =>
    obtain ⟨j, m, hj, rfl, rfl, hm, HM⟩ := hrel
    by_cases hlt : j < xs.length
    · have hcj := HC.out j hlt
      have hxj := HX.out xs[j] (List.getElem_mem _)
      have HS := Lib.hid (sumTo_succ xs j hlt)
      have hm0 : ¬ (1099511627776 : Int) < (m : Int) := by omega
      have hi1 : 0 ≤ (j : Int) ∧ (j : Int) < (xs.length : Int) := by omega
      generalize xs[j] = x at *
      by_cases hbig : 1099511627776 - (m : Int) < (x : Int)
      · go_wp2
        go_ret
        exact ⟨1099511627776, rfl, Nat.le_refl _, fun h => absurd h (by omega), rfl⟩
      · go_wp2
        go_round
        case rel => exact ⟨j + 1, m + x, by omega, by go_num, by go_num, by omega, Lib.hid (by rw [HS.out, HM.out]; omega)⟩
        case measure => simp [intOf]; omega
    · obtain rfl : j = xs.length := by omega
      go_wp2
      go_ret
      exact ⟨m, rfl, hm, fun _ => by rw [HM.out, HALL.out], rfl⟩

set_option maxHeartbeats 800000 in
theorem all_any (v : Value) (L : List (List UInt8)) (top : Nat) (w : World) (hv : Bss w v L) (ht : top < 1099511627776) :
    Calls Try.prog 6 #[v, .int .i64 top] w fun e w' => ∃ s : Nat, e = .returned (.int .i64 s) ∧ s ≤ 1099511627776 ∧ (s ≤ top → L.flatten.length + L.length ≤ top) ∧ Below w.heap.size w w' := by
  have HV := Lib.hid hv
  obtain ⟨a, cap, rfl, h1, h2, h3, h4⟩ := hv
  clear h3 h4
  unfold maxLen at h2
  have HALL := Lib.hid (catTo_all L L.length (Nat.le_refl _))
  generalize hn : L.length = n at *
  have HN := Lib.hid hn
  clear hn
  go_enter Try.func6, Try.ntmps6
  go_wp2
  go_loopw [5, 6] (fun s i wr => ∃ (j m : Nat), j ≤ n ∧ i = .int .i64 j ∧ s = .int .i64 m ∧ m ≤ 1099511627776 ∧ Hid (m ≤ top → m = (catTo L j).length + j) ∧ Below w.heap.size w wr) (fun _ i _ => n - (intOf i).toNat)
  case atStart => exact ⟨0, 0, Nat.zero_le _, rfl, rfl, by omega, Lib.hid (by simp [catTo]), Below.refl _ _⟩
  case round =>
    obtain ⟨j, m, hj, rfl, rfl, hm, HM, hbel⟩ := hrel
    by_cases hlt : j < n
    · by_cases hmt : m ≤ top
      · have hjl : j < L.length := by rw [HN.out]; exact hlt
        have HS := Lib.hid (catTo_succ L j hjl)
        obtain ⟨b, off, cap', he, _, _, hbl, hc⟩ := HV.out.open_cons (by rw [HN.out]; omega)
        rw [HN.out] at he
        cases he
        obtain ⟨u, hcj, hu⟩ := hc j hjl
        clear hc
        have hcr : wr.cell? ⟨b, off + j, none⟩ = some u := (hbel.cell (by exact hbl)).trans hcj
        obtain ⟨au, x, cu, rfl, hx, hx1, hx2, _⟩ := hu.shape
        have HXL := Lib.hid hx
        clear hx hu hcj
        have hi1 : 0 ≤ (j : Int) ∧ (j : Int) < (n : Int) := by omega
        have hN := Ns.two wr x 1
        have hx3 : ∀ y ∈ [x, 1], y ≤ 9223372036854775807 := by intro y hy; simp at hy; omega
        have HX3 := Lib.hid hx3
        clear hx3
        go_wp2_with fail
        refine (sum_any m _ [x, 1] _ hN hm HX3.out (by simp)).mono ?_
        rintro e w2 ⟨s, rfl, hs1, hs2, rfl⟩
        have HS2 := Lib.hid hs2
        clear hs2 hN
        go_wp2
        go_roundw
        case rel =>
          refine ⟨j + 1, s, by omega, by go_num, rfl, hs1, Lib.hid fun h => ?_, hbel.alloc hbel.size _⟩
          rw [HS.out, List.length_append, HXL.out, HS2.out (by omega), HM.out hmt]
          simp only [List.sum_cons, List.sum_nil]
          omega
        case measure => simp [intOf]; omega
      · go_wp2
        go_ret
        exact ⟨m, rfl, hm, fun h => absurd h hmt, hbel⟩
    · obtain rfl : j = n := by omega
      go_wp2
      go_ret
      refine ⟨m, rfl, hm, fun h => ?_, hbel⟩
      have := HM.out h
      rw [HALL.out] at this
      omega
end Go.Proofs.Ytladojcbbhphfaa
