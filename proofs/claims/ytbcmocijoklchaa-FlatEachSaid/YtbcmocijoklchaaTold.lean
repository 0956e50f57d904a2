/- The closure of the statement, and flat.told with each of the two functions that the statement hands over. -/
import Derived.Test.YtbcmocijoklchaaEach
namespace Go.Proofs.Ytbcmocijoklchaa
open Go.RowKit Go.Deep

set_option maxHeartbeats 800000 in
theorem clos_any (c : UInt8) (g n pg pt : Nat) (l : List UInt8) (w : World) (hr : RowOf w g l) (hn : l.length = n) (hlen : n ≤ 2147483647)
    (hpg : w.cell? ⟨pg, 0, none⟩ = some (.func (.func 28) #[] #[])) (hpt : w.cell? ⟨pt, 0, none⟩ = some (.int .u8 (c.toNat : Int))) :
    Calls Try.prog 30 #[.slice (some ⟨g, 0, none⟩) n n, .pointer (some ⟨pg, 0, none⟩), .pointer (some ⟨pt, 0, none⟩)] w fun e w' => e = .returned (.slice (some ⟨g, 0, none⟩) n n) ∧ RowOf w' g (xorC l c) ∧ w.grownBy w' (some g) := by
  have HN := Lib.hid hn
  have HR := Lib.hid hr
  clear hn hr
  go_enter Try.func30, Try.ntmps30
  go_wp2_with fail
  refine (over_any c g n l _ HR.out HN.out hlen).mono ?_
  rintro e w1 ⟨rfl, h1, h2⟩
  go_wp2
  go_ret
  exact ⟨rfl, h1, h2⟩

theorem quiet_recover (w : World) : CallsD Try.prog 42 #[] .returning w fun e u' w' => e = .returned (.tuple #[]) ∧ u' = .returning ∧ w' = w := by
  refine callsD_of_wpS Try.func42 rfl fun c₀ cs hu => ?_
  apply wpS_region
  simp [wpOpsS, go_sem, recoverD, hu, Try.ntmps42, Exit.thenS, bodyPostS, results, Try.results42]
  cases c₀
  simp_all

set_option maxHeartbeats 800000 in
theorem told_mv (c : UInt8) (g n : Nat) (l : List UInt8) (w : World) (hr : RowOf w g l) (hn : l.length = n) (hlen : n ≤ 2147483647) :
    Calls Try.prog 40 #[.func (.func 28) #[.agg #[.int .u8 (c.toNat : Int)]] #[], .slice (some ⟨g, 0, none⟩) n n] w fun e w' =>
      ∃ h, e = .returned (.slice (some ⟨h, 0, none⟩) n n) ∧ w.heap.size ≤ h ∧ RowOf w' h (xorC l c) ∧ w.grownBy w' (some g) := by
  have HN := Lib.hid hn
  have HR := Lib.hid hr
  have hg := hr.lt
  clear hn hr
  go_enter_defers Try.func40, Try.ntmps40
  go_wp2_with fail
  refine (over_any c g n l _ HR.out HN.out hlen).mono ?_
  rintro e w1 ⟨rfl, h1, h2⟩
  have h3 : Bs w1 (.slice (some ⟨g, 0, none⟩) n n) (xorC l c) := by
    have := h1.bs (by rw [xorC_length, HN.out]; omega)
    rwa [xorC_length, HN.out] at this
  have H1 := Lib.hid (And.intro h3 h2)
  clear h1 h2 h3
  go_wp2_with fail
  refine (fresh_any _ (xorC l c) _ H1.out.1 (by rw [xorC_length, HN.out]; omega)).mono ?_
  rintro e w2 ⟨rfl, h4, h5, h6⟩
  rw [xorC_length, HN.out]
  have H2 : Hid (w.grownBy w2 (some g)) := Lib.hid (gb_trans H1.out.2 (gb_below h6 (Nat.le_refl _)))
  have H3 : Hid (w.heap.size ≤ w1.heap.size) := Lib.hid H1.out.2.size
  clear h6 H1
  go_wp2
  refine leaves_cons (f := 42) (args := #[]) (by simp) (by simp [go_sem]) ?_
  refine (quiet_recover _).mono ?_
  rintro e u' w'' ⟨rfl, rfl, rfl⟩
  exact ⟨_, results_tmp rfl _ _ _, w1.heap.size, rfl, H3.out, h4, H2.out⟩
set_option maxHeartbeats 800000 in
theorem told_cl (c : UInt8) (g n pg pt : Nat) (l : List UInt8) (w : World) (hr : RowOf w g l) (hn : l.length = n) (hlen : n ≤ 2147483647)
    (hpg : w.cell? ⟨pg, 0, none⟩ = some (.func (.func 28) #[] #[])) (hpt : w.cell? ⟨pt, 0, none⟩ = some (.int .u8 (c.toNat : Int))) :
    Calls Try.prog 40 #[.func (.func 30) #[] #[.pointer (some ⟨pg, 0, none⟩), .pointer (some ⟨pt, 0, none⟩)], .slice (some ⟨g, 0, none⟩) n n] w fun e w' =>
      ∃ h, e = .returned (.slice (some ⟨h, 0, none⟩) n n) ∧ w.heap.size ≤ h ∧ RowOf w' h (xorC l c) ∧ w.grownBy w' (some g) := by
  have HN := Lib.hid hn
  have HR := Lib.hid hr
  have hg := hr.lt
  have HPG := Lib.hid hpg
  have HPT := Lib.hid hpt
  clear hn hr hpg hpt
  go_enter_defers Try.func40, Try.ntmps40
  go_wp2_with fail
  refine (clos_any c g n pg pt l _ HR.out HN.out hlen HPG.out HPT.out).mono ?_
  rintro e w1 ⟨rfl, h1, h2⟩
  have h3 : Bs w1 (.slice (some ⟨g, 0, none⟩) n n) (xorC l c) := by
    have := h1.bs (by rw [xorC_length, HN.out]; omega)
    rwa [xorC_length, HN.out] at this
  have H1 := Lib.hid (And.intro h3 h2)
  clear h1 h2 h3
  go_wp2_with fail
  refine (fresh_any _ (xorC l c) _ H1.out.1 (by rw [xorC_length, HN.out]; omega)).mono ?_
  rintro e w2 ⟨rfl, h4, h5, h6⟩
  rw [xorC_length, HN.out]
  have H2 : Hid (w.grownBy w2 (some g)) := Lib.hid (gb_trans H1.out.2 (gb_below h6 (Nat.le_refl _)))
  have H3 : Hid (w.heap.size ≤ w1.heap.size) := Lib.hid H1.out.2.size
  clear h6 H1
  go_wp2
  refine leaves_cons (f := 42) (args := #[]) (by simp) (by simp [go_sem]) ?_
  refine (quiet_recover _).mono ?_
  rintro e u' w'' ⟨rfl, rfl, rfl⟩
  exact ⟨_, results_tmp rfl _ _ _, w1.heap.size, rfl, H3.out, h4, H2.out⟩
end Go.Proofs.Ytbcmocijoklchaa
