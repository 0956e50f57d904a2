/- The sums of "abc", by the kernel. -/
import Derived.Test.YtgfgnjlbghakfaaSum512
import Derived.Lib.SlBytesConst
namespace Go.Proofs.Ytgfgnjlbghakfaa
open Go.RowKit Go.Deep

section
variable {n : Nat} (k : Kind n)
/-- The words of a block, the last first. -/
def Kind.evL (b : Nat → BitVec n) : Nat → List (BitVec n)
  | 0 => []
  | i + 1 => (if i < 16 then b i else k.low1 ((Kind.evL b i).getD 1 0) + (Kind.evL b i).getD 6 0 + k.low0 ((Kind.evL b i).getD 14 0) + (Kind.evL b i).getD 15 0) :: Kind.evL b i
theorem Kind.evL_get (b : Nat → BitVec n) : ∀ i t, t < i → (k.evL b i).getD (i - 1 - t) 0 = k.sched b t
  | 0, t, h => by omega
  | i + 1, t, h => by
    by_cases e : t = i
    · subst e
      rw [show t + 1 - 1 - t = 0 by omega, Kind.evL, List.getD_cons_zero]
      by_cases h16 : t < 16
      · rw [if_pos h16, Kind.sched_low _ _ _ h16]
      · rw [if_neg h16, Kind.sched_high _ _ _ (by omega), ← Kind.evL_get b t (t - 2) (by omega), ← Kind.evL_get b t (t - 7) (by omega), ← Kind.evL_get b t (t - 15) (by omega), ← Kind.evL_get b t (t - 16) (by omega)]
        rw [show t - 1 - (t - 2) = 1 by omega, show t - 1 - (t - 7) = 6 by omega, show t - 1 - (t - 15) = 14 by omega, show t - 1 - (t - 16) = 15 by omega]
    · rw [show i + 1 - 1 - t = (i - 1 - t) + 1 by omega, Kind.evL, List.getD_cons_succ]
      exact Kind.evL_get b i t (by omega)
theorem Kind.rnd_congr {W W' : Nat → BitVec n} (s : S8 n) : ∀ t, (∀ j, j < t → W j = W' j) → k.rnd W s t = k.rnd W' s t
  | 0, _ => rfl
  | t + 1, h => by rw [Kind.rnd, Kind.rnd, Kind.rnd_congr s t (fun j hj => h j (by omega)), h t (by omega)]
theorem Kind.press_ev (s : S8 n) (blk : List UInt8) : k.press s blk = S8.add s (k.rnd (fun t => (k.evL (k.word blk) k.rounds).getD (k.rounds - 1 - t) 0) s k.rounds) := by
  unfold Kind.press
  congr 1
  exact k.rnd_congr s _ fun j hj => (k.evL_get _ _ _ hj).symm
theorem Kind.sum_one (m : List UInt8) (h : (k.pad m).length / k.block = 1) : k.sum m = k.out (S8.add k.first (k.rnd (fun t => (k.evL (k.word (((k.pad m).drop (k.block * 0)).take k.block)) k.rounds).getD (k.rounds - 1 - t) 0) k.first k.rounds)) 8 := by
  unfold Kind.sum
  rw [h]
  show k.out (k.press k.first _) 8 = _
  rw [k.press_ev]
end
theorem abc256 : (k256.sum [97, 98, 99]).take 4 = [186, 120, 22, 191] := by
  rw [Kind.sum_one k256 [97, 98, 99] (by kernel_rfl)]
  kernel_rfl
theorem abc512 : (k512.sum [97, 98, 99]).take 4 = [221, 175, 53, 161] := by
  rw [Kind.sum_one k512 [97, 98, 99] (by kernel_rfl)]
  kernel_rfl

theorem Bs.lit (w : World) (l : List UInt8) (fr : Nat × Nat) (n : Nat) (hn : n = l.length) (hm : n ≤ maxLen) : Bs (w.alloc (.cells (u8s l).toArray 5 fr)) (.slice (some ⟨w.heap.size, 0, none⟩) n n) l := by
  subst hn
  refine ⟨_, l.length, rfl, Nat.le_refl _, hm, (fun h => by cases h), fun x hx i hi => ?_⟩
  cases hx
  refine ⟨by show w.heap.size < (w.alloc _).heap.size; simp, ?_⟩
  rw [add_eq, Nat.zero_add]
  refine (World.cell?_alloc_mark w _ _ fr i).trans ?_
  simp [u8s, hi]

/-- 's[:4]'. -/
theorem to_four {w : World} {ad : Option Addr} {n cap : Nat} {l : List UInt8} (hB : Bs w (.slice ad n cap) l) (hn : 4 ≤ n) :
    (Instr.sliceAt 25 (.slice ad n cap) none (some (.int .i64 4)) none).run Try.prog w = .ok (.slice ad 4 cap) w := by
  obtain ⟨a', cap', he, h1, h2, h3, h4⟩ := hB
  cases he
  cases hq : Try.prog.info? 5 with
  | none =>
    have := Try.info5
    simp [hq] at this
  | some i =>
    have hs : i.size = 1 := by
      have := Try.info5
      simp [hq] at this
      exact this.2.1
    have hcap : ¬ cap = 0 := by omega
    obtain ⟨x, rfl⟩ : ∃ x, ad = some x := by
      cases ad with
      | none => have := h3 rfl; omega
      | some x => exact ⟨x, rfl⟩
    have hx : x.add 0 = x := by unfold Addr.add; simp
    have hb := run_bound_in (P := Try.prog) w .i64 4 cap .sliceAcap (by omega)
    simp [Instr.sliceAt, run_underlying Try.underlying25 w, Instr.slice, Instr.sliceBounds, sizeOf, typeInfo, hq, hs, hcap, hx, Result.andThen]
    have hb' : (Instr.sliceBound (.int .i64 4) cap .sliceAcap).run Try.prog w = .ok 4 w := hb
    simp [hb', hcap, hx]

set_option maxHeartbeats 4000000 in
theorem awake2_any (w : World) : Calls Try.prog 8 #[] w fun e w' => e = .returned (.bool true) ∧ Below w.heap.size w w' := by
  obtain ⟨wA, hwA⟩ : ∃ wA, wA = w.alloc (.cells #[.int .u8 97, .int .u8 98] 5 (2, 3)) := ⟨_, rfl⟩
  obtain ⟨wB, hwB⟩ : ∃ wB, wB = wA.alloc (.cells #[.int .u8 99] 5 (1, 2)) := ⟨_, rfl⟩
  have k1 := Lib.run_convert_bytes_const (P := Try.prog) w 25 5 #[.int .u8 97, .int .u8 98] 2 2 Try.underlying25 Try.underlying5
  have k2 := Lib.run_convert_bytes_const (P := Try.prog) wA 25 5 #[.int .u8 99] 1 1 Try.underlying25 Try.underlying5
  rw [show (#[.int .u8 97, .int .u8 98] : Array Value).size = 2 from rfl, ← hwA] at k1
  rw [show (#[.int .u8 99] : Array Value).size = 1 from rfl, ← hwB] at k2
  have h1 : Bs wA (.slice (some ⟨w.heap.size, 0, none⟩) 2 2) [97, 98] := by rw [hwA]; exact Bs.lit w [97, 98] (2, 3) 2 rfl (by unfold maxLen; omega)
  have h2 : Bs wB (.slice (some ⟨wA.heap.size, 0, none⟩) 1 1) [99] := by rw [hwB]; exact Bs.lit wA [99] (1, 2) 1 rfl (by unfold maxLen; omega)
  have bA : Below w.heap.size w wA := by rw [hwA]; exact (Below.refl _ _).alloc (Nat.le_refl _) _
  have bAB : Below wA.heap.size wA wB := by rw [hwB]; exact (Below.refl _ _).alloc (Nat.le_refl _) _
  have bB : Below w.heap.size w wB := bA.trans (bAB.mono bA.size)
  have h3 := Lib.hid (Bss.two (h1.below bAB (Nat.le_refl _)) h2 rfl)
  have b3 : Below w.heap.size w (wB.alloc (.cells #[.slice (some ⟨w.heap.size, 0, none⟩) 2 2, .slice (some ⟨wA.heap.size, 0, none⟩) 1 1] 25)) := bB.alloc bB.size _
  clear h1 h2 bA bAB bB hwA hwB
  go_enter Try.func8, Try.ntmps8
  go_wp2_with (first
    | (go_at_call 10; refine (sum256_any _ [[97, 98], [99]] _ h3.out (by decide)).mono ?_; rintro e w1 ⟨v1, rfl, hB1, hb1⟩
       have b1 := b3.trans (hb1.mono b3.size)
       obtain ⟨wC, hwC⟩ : ∃ wC, wC = w1.alloc (.cells #[.int .u8 97, .int .u8 98, .int .u8 99] 5 (3, 4)) := ⟨_, rfl⟩
       have k3 := Lib.run_convert_bytes_const (P := Try.prog) w1 25 5 #[.int .u8 97, .int .u8 98, .int .u8 99] 3 3 Try.underlying25 Try.underlying5
       rw [show (#[.int .u8 97, .int .u8 98, .int .u8 99] : Array Value).size = 3 from rfl, ← hwC] at k3
       have h4 : Bs wC (.slice (some ⟨w1.heap.size, 0, none⟩) 3 3) [97, 98, 99] := by rw [hwC]; exact Bs.lit w1 [97, 98, 99] (3, 4) 3 rfl (by unfold maxLen; omega)
       have bC : Below w1.heap.size w1 wC := by rw [hwC]; exact (Below.refl _ _).alloc (Nat.le_refl _) _
       have h5 := Lib.hid (Bss.one h4 rfl)
       have hB1' := hB1.below bC (Nat.le_refl _)
       have bD : Below w1.heap.size w1 (wC.alloc (.cells #[.slice (some ⟨w1.heap.size, 0, none⟩) 3 3] 25)) := bC.alloc bC.size _
       have hB1D := hB1.below bD (Nat.le_refl _)
       have b5 : Below w.heap.size w (wC.alloc (.cells #[.slice (some ⟨w1.heap.size, 0, none⟩) 3 3] 25)) := b1.trans (bD.mono b1.size)
       clear hwC h4 bC hB1 hb1 bD)
    | (go_at_call 12; refine (sum512_any _ [[97, 98, 99]] _ h5.out (by decide)).mono ?_; rintro e w2 ⟨v2, rfl, hB2, hb2⟩
       have b2 := b5.trans (hb2.mono b5.size)
       have hB3 := hB1D.below hb2 (Nat.le_refl _)
       have l1 : (k256.sum ([[97, 98], [99]] : List (List UInt8)).flatten).length = 32 := out_length k256 _ 4 rfl 8
       have l2 : (k512.sum ([[97, 98, 99]] : List (List UInt8)).flatten).length = 64 := out_length k512 _ 8 rfl 8
       obtain ⟨a1, n1, c1, rfl, e1, f1, g1, hB3⟩ := hB3.shape
       obtain ⟨a2, n2, c2, rfl, e2, f2, g2, hB2⟩ := hB2.shape
       rw [l1] at e1
       rw [l2] at e2
       subst e1 e2
       have t1 := (hB3.take (k := 4) (by omega)).conv
       have t2 := (hB2.take (k := 4) (by omega)).conv
       rw [show ([[97, 98], [99]] : List (List UInt8)).flatten = [97, 98, 99] from rfl, abc256] at t1
       rw [show ([[97, 98, 99]] : List (List UInt8)).flatten = [97, 98, 99] from rfl, abc512] at t2
       have s1 := to_four hB3 (by omega)
       have s2 := to_four hB2 (by omega)
       clear l1 l2 hB3 hB2 hb2 hB1D h5 b5 hB1'))
  go_ret
  exact ⟨rfl, b2⟩
end Go.Proofs.Ytgfgnjlbghakfaa
