/- The document's bytes the other way round. -/
import Derived.Test.YtncdlaidmiokiaaScA
namespace Go.Proofs.Ytncdlaidmiokiaa
open Go.RowKit Go.Deep
set_option linter.unusedSimpArgs false
set_option linter.unusedVariables false

theorem rev_step (l : List UInt8) (k : Nat) (h : k < l.length) : (l.drop k).reverse = (l.drop (k + 1)).reverse ++ [l[k]] := by
  rw [List.drop_eq_getElem_cons h, List.reverse_cons]
set_option maxHeartbeats 1000000 in
theorem refTurned_any (v : Value) (l : List UInt8) (w : World) (hv : Bs w v l) (hl : l.length ≤ 1000000) :
    Calls Try.prog 29 #[v] w fun e w' => ∃ v', e = .returned v' ∧ Owns w' w.heap.size v' l.reverse ∧ Below w.heap.size w w' := by
  obtain ⟨a, n, cap, rfl, hn, hc1, hc2, hB0⟩ := hv.shape
  have HV := Lib.hid hB0
  have HN := Lib.hid hn
  have hnl : n ≤ 1000000 := by omega
  have hwn : IntKind.i64.wrap ((n : Int) - 1) = (n : Int) - 1 := IntWalk.i64_in _ (by omega)
  have hown := Owns.nil w w.heap.size
  have hbel := Below.refl w.heap.size w
  clear hv hB0
  go_enter Try.func29, Try.ntmps29
  go_wp2
  generalize hg0 : w.heap.size = g0 at *
  have HG := Lib.hid hg0
  have HGS : Hid (∀ wq : World, Below g0 w wq → g0 ≤ wq.heap.size) := Lib.hid fun wq h => by rw [← HG.out]; exact h.size
  clear hg0 hn
  go_loopw [3, 4] (fun out ii wr => ∃ j : Nat, j ≤ n ∧ ii = .int .i64 ((j : Int) - 1) ∧ Owns wr g0 out (l.drop j).reverse ∧ Below g0 w wr) (fun _ ii _ => ((intOf ii) + 1).toNat)
  case atStart => exact ⟨n, Nat.le_refl _, rfl, by rw [List.drop_eq_nil_of_le (by rw [HN.out]; exact Nat.le_refl _)]; exact hown, hbel⟩
  case round =>
    clear hown hbel
    obtain ⟨j, hj, rfl, hown, hbel⟩ := hrel
    cases j with
    | zero =>
      go_wp2
      go_ret
      exact ⟨_, rfl, by rw [HG.out]; exact hown, by rw [HG.out]; exact hbel⟩
    | succ k =>
      have hk : k < n := by omega
      rw [show ((k + 1 : Nat) : Int) - 1 = (k : Int) by omega]
      have hk0 : 0 ≤ (k : Int) ∧ (k : Int) < (n : Int) := by omega
      obtain ⟨b, off, cap', he, _, _, hbl, hc⟩ := HV.out.open_n HN.out (by omega)
      cases he
      have hkl : k < l.length := by rw [HN.out]; exact hk
      have hci := hc k hkl
      have hci2 := (hbel.cell (p := ⟨b, off + k, none⟩) (by rw [← HG.out]; exact hbl)).trans hci
      have HST := Lib.hid (rev_step l k hkl)
      obtain ⟨x, hx⟩ : ∃ x, x = l[k] := ⟨_, rfl⟩
      rw [← hx] at hci2 HST
      have hob := hown.alloc (.cells #[.int .u8 (x.toNat : Int)] 5)
      have hbx := Bs.one wr x
      have hb1 := hbel.alloc (HGS.out _ hbel) (.cells #[.int .u8 (x.toNat : Int)] 5)
      have hge := HGS.out _ hb1
      have hll : (l.drop (k + 1)).reverse.length ≤ 1000000 := by rw [List.length_reverse, List.length_drop]; omega
      have hwk : IntKind.i64.wrap ((k : Int) - 1) = (k : Int) - 1 := IntWalk.i64_in _ (by omega)
      clear hci hc hx hown hbel hkl
      go_wp2_with (refine wpList_app rfl (.tmp 12) (.tmp 17) rfl g0 _ _ ((l.drop (k + 1)).reverse) [x] hob hbx rfl rfl (by simp only [List.length_cons, List.length_nil]; omega) hge ?_; intro v6 w6 hown6 hg6)
      have hbel6 : Below g0 w w6 := hb1.grown hg6 (HGS.out _ hb1) (fun q hq => Owns.block hob q hq)
      have hown7 : Owns w6 g0 v6 (l.drop k).reverse := by rw [HST.out]; exact hown6
      clear hown6 hob hb1 hbx
      go_roundw
      case rel => exact ⟨k, by omega, rfl, hown7, hbel6⟩
      case measure => (simp [intOf]; try omega)
end Go.Proofs.Ytncdlaidmiokiaa
