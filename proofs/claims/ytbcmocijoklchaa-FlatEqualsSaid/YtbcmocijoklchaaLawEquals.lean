/- missivelaw1.FlatEquals: the walk. -/
import Derived.Test.YtbcmocijoklchaaEq
import Derived.Test.YtbcmocijoklchaaFlip
namespace Go.Proofs.Ytbcmocijoklchaa
open Go.RowKit Go.Deep

theorem hv_at {w w1 : World} {o : Obj} {v : Value} {l : List UInt8} (h : Hid (Bs w v l)) (hb : Below (w.alloc o).heap.size (w.alloc o) w1) (ho : w.heap.size ≤ (w.alloc o).heap.size) : Bs w1 v l :=
  h.out.below (((Below.refl _ _).alloc (Nat.le_refl _) o).trans (hb.mono ho)) (Nat.le_refl _)

set_option maxHeartbeats 800000 in
theorem law_flatEquals (w : World) (v : Value) (l : List UInt8) (hv : Bs w v l) (bit : Int) (hbit : (Lit.int .i64 bit).wf = true) :
    Calls Try.prog 8 #[v, .int .i64 bit] w fun e w' => e = .returned (.bool true) ∧ Below w.heap.size w w' := by
  obtain ⟨hk0, hk1⟩ := bd_i64 hbit
  have HV := Lib.hid hv
  obtain ⟨a, cap, rfl, h1, h2, h3, h4⟩ := hv
  clear h3 h4 hbit
  unfold maxLen at h2
  by_cases c0 : l.length = 0
  · have d0 : ((l.length : Int) == 0) = true := by simp [c0]
    go_enter Try.func8, Try.ntmps8
    go_wp2_with fail
    refine (awake_any _).mono ?_
    rintro e w1 ⟨rfl, hb⟩
    go_wp2
    go_ret
    exact ⟨rfl, hb⟩
  by_cases c1 : 500 < l.length
  · have d0 : ((l.length : Int) == 0) = false := beq_eq_false_iff_ne.2 (by omega)
    have d1 : (500 : Int) < (l.length : Int) := by omega
    go_enter Try.func8, Try.ntmps8
    go_wp2_with fail
    refine (awake_any _).mono ?_
    rintro e w1 ⟨rfl, hb⟩
    go_wp2
    go_ret
    exact ⟨rfl, hb⟩
  have d0 : ((l.length : Int) == 0) = false := beq_eq_false_iff_ne.2 (by omega)
  have d1 : ¬ (500 : Int) < (l.length : Int) := by omega
  go_enter Try.func8, Try.ntmps8
  go_wp2_with fail
  refine (cat_any _ [l] _ (Bss.one HV.out rfl) (by simp; omega)).mono ?_
  rintro e w1 ⟨v1, rfl, ho1, hb1⟩
  have hBl := hv_at HV hb1 (by simp)
  have B1 : Below w.heap.size w w1 := ((Below.refl _ _).alloc (Nat.le_refl _) _).trans (hb1.mono (by simp))
  clear hb1
  go_wp2_with fail
  refine (equal_same _ _ l [l].flatten _ hBl ho1.bs (by simp)).mono ?_
  rintro e w2 ⟨rfl, rfl⟩
  clear ho1
  have hm : (0 : Int) ≤ (l.length : Int) - 1 := by omega
  go_wp2_with fail
  refine (equal_diff _ _ l (l.take (l.length - 1)) _ hBl (Bs.take hBl (by omega)) (fun e => by have := congrArg List.length e; simp at this; omega)).mono ?_
  rintro e w3 ⟨rfl, rfl⟩
  have hz : Bs (w3.alloc (.cells #[.int .u8 0] 5)) (.slice (some ⟨w3.heap.size, 0, none⟩) 1 1) [0] := Bs.one w3 0
  have hlz : Bs (w3.alloc (.cells #[.int .u8 0] 5)) (.slice a l.length cap) l := hBl.below ((Below.refl _ _).alloc (Nat.le_refl _) _) (Nat.le_refl _)
  have HZ := Lib.hid (Bss.two hlz hz (n := w3.heap.size + 1) (by simp))
  clear hz hlz
  have HL := Lib.hid hBl
  clear hBl
  go_wp2_with fail
  refine (cat_any _ [l, [0]] _ HZ.out (by simp; omega)).mono ?_
  rintro e w4 ⟨v4, rfl, ho4, hb4⟩
  have B34 : Below w3.heap.size w3 w4 := (((Below.refl _ _).alloc (Nat.le_refl _) _).alloc (by simp) _).trans (hb4.mono (by simp; omega))
  have hBl := HL.out.below B34 (Nat.le_refl _)
  have B4 : Below w.heap.size w w4 := B1.trans (B34.mono B1.size)
  clear hb4 B34 HZ HL B1
  go_wp2_with fail
  refine (equal_diff _ _ l [l, [0]].flatten _ hBl ho4.bs (fun e => by have := congrArg List.length e; simp at this)).mono ?_
  rintro e w5 ⟨rfl, rfl⟩
  clear ho4
  have hmod0 := Int.emod_nonneg bit (b := 8 * (l.length : Int)) (by omega)
  have hmod1 := Int.emod_lt_of_pos bit (b := 8 * (l.length : Int)) (by omega)
  have hne := flipB_ne l (bit % (8 * (l.length : Int))).toNat (by omega)
  have HN := Lib.hid hne
  clear hne
  clear hmod0 hmod1
  go_wp2_with fail
  refine (flip_any _ l bit _ hBl (by omega) (by omega) hk0 hk1).mono ?_
  rintro e w6 ⟨v6, rfl, hB6, hb6⟩
  have hBl6 := hBl.below hb6 (Nat.le_refl _)
  have B6 : Below w.heap.size w w6 := B4.trans (hb6.mono B4.size)
  clear hb6 B4 hBl
  go_wp2_with fail
  refine (equal_diff _ _ l _ _ hBl6 hB6 (fun e => HN.out e.symm)).mono ?_
  rintro e w7 ⟨rfl, rfl⟩
  clear hB6
  go_wp2_with fail
  refine (flip_any _ l bit _ hBl6 (by omega) (by omega) hk0 hk1).mono ?_
  rintro e w8 ⟨v8, rfl, hB8, hb8⟩
  have hBl8 := hBl6.below hb8 (Nat.le_refl _)
  have B8 : Below w.heap.size w w8 := B6.trans (hb8.mono B6.size)
  clear hb8 B6 hBl6
  go_wp2_with fail
  refine (equal_diff _ _ _ l _ hB8 hBl8 HN.out).mono ?_
  rintro e w9 ⟨rfl, rfl⟩
  clear hB8 hBl8
  go_wp2_with fail
  refine (awake_any _).mono ?_
  rintro e w10 ⟨rfl, hb10⟩
  go_wp2
  go_ret
  exact ⟨rfl, B8.trans (hb10.mono B8.size)⟩
end Go.Proofs.Ytbcmocijoklchaa
