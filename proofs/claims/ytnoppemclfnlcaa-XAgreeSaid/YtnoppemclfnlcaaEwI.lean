/- The program's numbers below p: Bytes. -/
import Derived.Test.YtnoppemclfnlcaaEwH
import Derived.Test.YtnoppemclfnlcaaMM1
set_option linter.unusedSimpArgs false
set_option linter.unusedVariables false
namespace Go.Proofs.Ytnoppemclfnlcaa
open Go.RowKit Go.Deep

theorem litB_word (V j : Nat) : litB V (8 * (j + 1)) = litB V (8 * j) ++ litB (wd V j) 8 := by
  unfold litB
  rw [show 8 * (j + 1) = 8 * j + 8 by omega, List.range_add, List.map_append, List.map_map]
  congr 1
  refine List.map_congr_left fun i hi => ?_
  have hi8 : i < 8 := List.mem_range.1 hi
  show UInt8.ofNat (V / 2 ^ (8 * (8 * j + i))) = UInt8.ofNat (wd V j / 2 ^ (8 * i))
  have e1 : V / 2 ^ (8 * (8 * j + i)) = V / 18446744073709551616 ^ j / 2 ^ (8 * i) := by
    rw [show 8 * (8 * j + i) = 64 * j + 8 * i by omega, Nat.pow_add, Nat.pow_mul, ← Nat.div_div_eq_div_mul]
  rw [e1]
  apply UInt8.toNat_inj.1
  simp only [UInt8.toNat_ofNat']
  unfold wd
  generalize V / 18446744073709551616 ^ j = U
  have h8 : i = 0 ∨ i = 1 ∨ i = 2 ∨ i = 3 ∨ i = 4 ∨ i = 5 ∨ i = 6 ∨ i = 7 := by omega
  rcases h8 with rfl | rfl | rfl | rfl | rfl | rfl | rfl | rfl <;> omega
theorem run_make32 (w : World) : (Instr.makeSlice 22 (.int .i64 0) (.int .i64 32)).run Try.prog w = .ok (.slice (some ⟨w.heap.size, 0, none⟩) 0 32) (w.alloc (.cells (madeCells #[.int .u8 0] 32) 5)) := by kernel_rfl
theorem Owns.made (w : World) : Owns (w.alloc (.cells (madeCells #[.int .u8 0] 32) 5)) w.heap.size (.slice (some ⟨w.heap.size, 0, none⟩) 0 32) [] :=
  World.ownsRow_made w _ 32 (Nat.le_refl _) (by decide) (by simp [madeCells])
theorem Owns.past {w w' : World} {base : Nat} {v : Value} {l : List UInt8} (h : Owns w base v l) (hb : Below w.heap.size w w') : Owns w' base v l := by
  obtain ⟨h1, h2⟩ := h
  refine ⟨h1, ?_⟩
  rcases h2 with h2 | ⟨g, cap, cur, rfl, hbg, hg, h3⟩
  · exact .inl h2
  · exact .inr ⟨g, cap, cur, rfl, hbg, (hb.block g (Array.getElem?_eq_some_iff.1 hg).1).trans hg, h3⟩
set_option maxHeartbeats 1000000 in
theorem bytes_any (V : Nat) (w : World) : Calls Try.prog 23 #[.agg (arrOf 4 (ewF V))] w fun e w' => ∃ v, e = .returned v ∧ Owns w' w.heap.size v (litB V 32) ∧ Below w.heap.size w w' := by
  have hrA := (rowIs_arr w 4 (ewF V) 42).alloc (.cells (madeCells #[.int .u8 0] 32) 5)
  have hbel := ((Below.refl w.heap.size w).alloc (Nat.le_refl _) (.cells (arrOf 4 (ewF V)) 42)).alloc (by simp) (.cells (madeCells #[.int .u8 0] 32) 5)
  have hown := Owns.made (w.alloc (.cells (arrOf 4 (ewF V)) 42))
  have hsz : ((w.alloc (.cells (arrOf 4 (ewF V)) 42)).alloc (.cells (madeCells #[.int .u8 0] 32) 5)).heap.size = w.heap.size + 1 + 1 := by simp only [World.size_alloc]
  have hmk := run_make32
  rw [World.size_alloc] at hown
  go_enter Try.func23, Try.ntmps23
  go_wp2_with (refine wpList_load_arr rfl 40 (.tmp 7) rfl 4 arrW hrA rfl (by omega) ?_; simp only [Nat.zero_add])
  generalize ((w.alloc (.cells (arrOf 4 (ewF V)) 42)).alloc (.cells (madeCells #[.int .u8 0] 32) 5)) = w1 at *
  generalize hg0 : w.heap.size = g0 at *
  have HG := Lib.hid hg0
  clear hg0 hrA hmk
  go_loopw [3, 5, 9] (fun out _ ii wr => ∃ j : Nat, j ≤ 4 ∧ ii = .int .i64 j ∧ Owns wr (g0 + 1) out (litB V (8 * j)) ∧ Below g0 w wr ∧ g0 + 1 ≤ wr.heap.size) (fun _ _ ii _ => 4 - (intOf ii).toNat)
  case atStart => exact ⟨0, Nat.zero_le _, rfl, hown, hbel, by omega⟩
  case round =>
    clear hown hbel hsz
    obtain ⟨j, hj, rfl, hown, hbel, hge⟩ := hrel
    by_cases hlt : j < 4
    · have hjI : 0 ≤ (j : Int) ∧ (j : Int) < 4 := by omega
      obtain ⟨x, hx⟩ := nat_var (wd V j)
      have hxl := wd_lt V j
      rw [← hx] at hxl
      have HX := Lib.hid hx.symm
      have HXL := Lib.hid hxl
      have hll : (litB V (8 * j)).length = 8 * j := litB_length _ _
      have HW := Lib.hid (litB_word V j)
      clear hx hxl
      go_wp2_with (first
        | refine wpList_indexW rfl (.tmp 8) (.tmp 9) rfl (wd V) x HX.out rfl rfl hlt ?_
        | (go_at_call 37; refine (little64_any x _ HXL.out).mono ?_; rintro e w5 ⟨vb, rfl, hb5, hbl5⟩
           have hown5 := hown.past hbl5
           have hbel5 := hbel.trans (hbl5.mono (by rw [← HG.out]; exact hbel.size))
           have hge5 := Nat.le_trans hge hbl5.size
           clear hown hbel)
        | (refine wpList_app rfl (.tmp 12) (.tmp 14) rfl (g0 + 1) _ vb (litB V (8 * j)) (litB x 8) hown5 hb5 rfl rfl (by rw [hll, litB_length]; omega) hge5 ?_; intro v6 w6 hown6 hg6))
      have hbel6 : Below g0 w w6 := hbel5.grown hg6 (by rw [← HG.out]; exact hbel5.size) (fun k hk => Nat.le_of_succ_le (Owns.block hown5 k hk))
      have hge6 : g0 + 1 ≤ w6.heap.size := Nat.le_trans hge5 hg6.size
      have hown7 : Owns w6 (g0 + 1) v6 (litB V (8 * (j + 1))) := by rw [HW.out, HX.out]; exact hown6
      clear hown6 hown5 hbel5
      go_roundw
      case rel => exact ⟨j + 1, by omega, by go_num, hown7, hbel6, hge6⟩
      case measure => simp [intOf]; omega
    · obtain rfl : j = 4 := by omega
      go_wp2
      go_ret
      exact ⟨_, rfl, by rw [HG.out]; exact hown.lower (Nat.le_succ _), by rw [HG.out]; exact hbel⟩
end Go.Proofs.Ytnoppemclfnlcaa
