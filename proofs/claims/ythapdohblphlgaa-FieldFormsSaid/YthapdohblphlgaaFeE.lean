/- The document's numbers below p: Bytes. -/
import Derived.Test.YthapdohblphlgaaFeD
namespace Go.Proofs.Ythapdohblphlgaa
open Go.RowKit Go.Deep

theorem litB_two (V j : Nat) : litB V (2 * (j + 1)) = litB V (2 * j) ++ [UInt8.ofNat (dig V j), UInt8.ofNat (dig V j / 256)] := by
  unfold litB
  rw [show 2 * (j + 1) = 2 * j + 1 + 1 by omega, List.range_succ, List.range_succ, List.map_append, List.map_append, List.append_assoc]
  congr 1
  simp only [List.map_cons, List.map_nil, List.cons_append, List.nil_append]
  have e1 : V / 2 ^ (8 * (2 * j)) = V / 65536 ^ j := by rw [show 8 * (2 * j) = 16 * j by omega, Nat.pow_mul]
  have e2 : V / 2 ^ (8 * (2 * j + 1)) = V / 65536 ^ j / 256 := by rw [show 8 * (2 * j + 1) = 16 * j + 8 by omega, Nat.pow_add, Nat.pow_mul, ← Nat.div_div_eq_div_mul]
  rw [e1, e2]
  congr 1
  · apply UInt8.toNat_inj.1
    simp only [UInt8.toNat_ofNat']
    unfold dig
    omega
  · congr 1
    apply UInt8.toNat_inj.1
    simp only [UInt8.toNat_ofNat']
    unfold dig
    omega

set_option maxHeartbeats 1000000 in
theorem refBytes_any (V : Nat) (w : World) : Calls Try.prog 41 #[.agg (arrOf 16 (feF V))] w fun e w' => ∃ v, e = .returned v ∧ Owns w' w.heap.size v (litB V 32) ∧ Below w.heap.size w w' := by
  have hrA := rowIs_arr w 16 (feF V) 31
  have hbel : Below w.heap.size w (w.alloc (.cells (arrOf 16 (feF V)) 31)) := (Below.refl _ _).alloc (Nat.le_refl _) _
  have hsz : (w.alloc (.cells (arrOf 16 (feF V)) 31)).heap.size = w.heap.size + 1 := World.size_alloc _ _
  go_enter Try.func41, Try.ntmps41
  go_wp2
  generalize w.alloc (.cells (arrOf 16 (feF V)) 31) = w1 at *
  generalize hg0 : w.heap.size = g0 at *
  have HG := Lib.hid hg0
  clear hg0
  go_loopw [3, 4] (fun out ii wr => ∃ j : Nat, j ≤ 16 ∧ ii = .int .i64 j ∧ Owns wr (g0 + 1) out (litB V (2 * j)) ∧ wr.rowIs g0 31 16 (feF V) ∧ Below g0 w wr ∧ g0 + 1 ≤ wr.heap.size) (fun _ ii _ => 16 - (intOf ii).toNat)
  case atStart => exact ⟨0, Nat.zero_le _, rfl, Owns.nil _ _, hrA, hbel, by omega⟩
  case round =>
    clear hrA hbel hsz
    obtain ⟨j, hj, rfl, hown, hA, hbel, hge⟩ := hrel
    by_cases hlt : j < 16
    · have hc : wr.cell? ⟨g0, j, none⟩ = some (.int .u64 ((dig V j : Nat) : Int)) := hA.cell hlt
      have hjI : 0 ≤ (j : Int) ∧ (j : Int) < 16 := by omega
      have hd := dig_lt V j
      have htwo := litB_two V j
      have HTWO := Lib.hid htwo
      have hll : (litB V (2 * j)).length = 2 * j := litB_length _ _
      obtain ⟨b0, hb0⟩ : ∃ b0, b0 = UInt8.ofNat (dig V j) := ⟨_, rfl⟩
      obtain ⟨b1, hb1⟩ : ∃ b1, b1 = UInt8.ofNat (dig V j / 256) := ⟨_, rfl⟩
      have h0 : (b0.toNat : Int) = ((dig V j : Nat) : Int) % 256 := by rw [hb0]; simp only [UInt8.toNat_ofNat']; omega
      have h1 : (b1.toNat : Int) = ((dig V j : Nat) : Int) / 256 := by rw [hb1]; simp only [UInt8.toNat_ofNat']; omega
      have HB0 := Lib.hid hb0
      have HB1 := Lib.hid hb1
      have hl1 : b1.toNat < 256 := UInt8.toNat_lt b1
      clear hb0 hb1 htwo
      generalize dig V j = d at *
      have k0 : IntKind.u8.wrap (d : Int) = (b0.toNat : Int) := by rw [h0]; rfl
      have k1 : IntKind.u8.wrap ((b1.toNat : Nat) : Int) = (b1.toNat : Int) := IntWalk.u8_in _ ⟨by omega, by omega⟩
      have h0' := h0.symm
      have h1' := h1.symm
      clear h0 h1
      go_wp2
      go_region_law (refine step_app rfl (.tmp 9) (.tmp 19) rfl (g0 + 1) _ _ (litB V (2 * j)) _ (Owns.alloc (Owns.drew hown) _) (Bs.two _ b0 b1) rfl rfl (by rw [hll]; simp; omega) (by simp; omega) ?_; intro v2 w2 hown2 hgrow2)
      all_goals
        have hbel3 : Below g0 w w2 := ((hbel.drew).alloc (Nat.le_trans (Nat.le_succ _) hge) _).grown hgrow2 (by simp; omega) (fun k hk => Nat.le_of_succ_le (Owns.block hown k hk))
        have hA3 : w2.rowIs g0 31 16 (feF V) := World.rowIs.of_block (World.rowIs.alloc (World.rowIs.drew hA) _) (hgrow2.block _ (World.rowIs.lt (World.rowIs.alloc (World.rowIs.drew hA) _)) (fun e => by have := Owns.block hown _ e.symm; omega))
        have hge3 : g0 + 1 ≤ w2.heap.size := Nat.le_trans (by simp; omega) hgrow2.size
        rw [HB0.out, HB1.out, ← HTWO.out] at hown2
        clear hgrow2 hown hbel hA hge hc
        go_wp2
        go_roundw
        case rel => exact ⟨j + 1, by omega, by go_num, hown2, hA3, hbel3, hge3⟩
        case measure => simp [intOf]; omega
    · obtain rfl : j = 16 := by omega
      go_wp2
      go_ret
      exact ⟨_, rfl, by rw [HG.out]; exact hown.lower (Nat.le_succ _), by rw [HG.out]; exact hbel⟩
end Go.Proofs.Ythapdohblphlgaa
