/- AesBoxes, walked. -/
import Derived.Test.YtiapkfeamochfaaMM3
namespace Go.Proofs.Ytiapkfeamochfaa
open Go.RowKit Go.Deep
set_option linter.unusedSimpArgs false
set_option linter.unusedVariables false

set_option maxHeartbeats 8000000 in
set_option maxRecDepth 100000 in
theorem law_aesBoxes (w : World) (x0 : Int) (w0 : (Lit.int .u8 x0).wf = true) (x1 : Int) (w1 : (Lit.int .u8 x1).wf = true) : Calls Try.prog 6 #[.int .u8 x0, .int .u8 x1] w fun e w' => e = .returned (.bool true) ∧ Below w.heap.size w w' := by
  obtain ⟨a, rfl, ha⟩ := bd_nat8 w0
  obtain ⟨b, rfl, hb⟩ := bd_nat8 w1
  have Bw0 := Below.refl w.heap.size w
  have HGS : Hid (∀ wq : World, Below w.heap.size w wq → w.heap.size ≤ wq.heap.size) := Lib.hid fun wq h => h.size
  obtain ⟨x, hx⟩ := nat_var (boxN a)
  obtain ⟨y, hy⟩ := nat_var (boxN b)
  have HB1 := Lib.hid fun w => pBox_any a w ha
  have HB2 := Lib.hid fun w => pBox_any b w hb
  have hxl : x < 256 := by rw [hx]; exact boxN_lt a
  have hne := box_ne a ha
  rw [← hx] at HB1 hne
  rw [← hy] at HB2
  obtain ⟨c, hc⟩ := nat_var (255 - a)
  have g1 : ¬ (x : Int) = (a : Int) := by omega
  have G1 : Hid (((x : Int) != (a : Int)) = true) := Lib.hid (by simp; omega)
  have g2 : bits .xor .u8 IntKind.u8.max (a : Int) = (c : Int) := by rw [hc]; exact not8 a ha
  have g3 : ¬ (x : Int) = (c : Int) := by omega
  have G3 : Hid (((x : Int) != (c : Int)) = true) := Lib.hid (by simp; omega)
  have heq : x = y ↔ a = b := ⟨fun h => box_inj a b ha hb (by rw [← hx, ← hy, h]), fun h => by rw [hx, hy, h]⟩
  by_cases h : a = b
  · subst h
    obtain rfl := heq.2 rfl
    clear heq hx hy hne hxl hc ha hb
    go_enter Try.func6, Try.ntmps6
    go_wp2_with (first
      | (have hgo := HB1; clear hgo
         go_at_call 12
         refine (HB1.out _).mono ?_
         rintro e w2 ⟨rfl, kk⟩
         have Bw1 := zbt HGS Bw0 kk
         clear HB1 Bw0 kk)
      | (have hgo := HB2; clear hgo
         go_at_call 12
         refine (HB2.out _).mono ?_
         rintro e w3 ⟨rfl, kk⟩
         have Bw2 := zbt HGS Bw1 kk
         clear HB2 Bw1 kk)
      | (have hgo := Bw2; clear hgo
         go_at_call 9
         refine (awake12_any _).mono ?_
         rintro e w4 ⟨rfl, kk⟩
         have Bw3 := zbt HGS Bw2 kk
         clear Bw2 kk))
    go_ret
    refine ⟨?_, Bw3⟩
    show Ending.returned (Value.bool ((x : Int) != (a : Int) && (x : Int) != (c : Int))) = _
    rw [G1.out, G3.out]
    rfl
  · have g4 : ¬ (a : Int) = (b : Int) := by omega
    have g5 : ¬ (x : Int) = (y : Int) := fun e => h (heq.1 (by omega))
    have g7 : ((x : Int) == (y : Int)) = ((a : Int) == (b : Int)) := by rw [beq_eq_false_iff_ne.2 g5, beq_eq_false_iff_ne.2 g4]
    clear g5 g4
    clear heq hx hy hne hxl hc ha hb h
    go_enter Try.func6, Try.ntmps6
    go_wp2_with (first
      | (have hgo := HB1; clear hgo
         go_at_call 12
         refine (HB1.out _).mono ?_
         rintro e w2 ⟨rfl, kk⟩
         have Bw1 := zbt HGS Bw0 kk
         clear HB1 Bw0 kk)
      | (have hgo := HB2; clear hgo
         go_at_call 12
         refine (HB2.out _).mono ?_
         rintro e w3 ⟨rfl, kk⟩
         have Bw2 := zbt HGS Bw1 kk
         clear HB2 Bw1 kk)
      | (have hgo := Bw2; clear hgo
         go_at_call 9
         refine (awake12_any _).mono ?_
         rintro e w4 ⟨rfl, kk⟩
         have Bw3 := zbt HGS Bw2 kk
         clear Bw2 kk))
    go_ret
    refine ⟨?_, Bw3⟩
    show Ending.returned (Value.bool ((x : Int) != (a : Int) && (x : Int) != (c : Int))) = _
    rw [G1.out, G3.out]
    rfl
end Go.Proofs.Ytiapkfeamochfaa
