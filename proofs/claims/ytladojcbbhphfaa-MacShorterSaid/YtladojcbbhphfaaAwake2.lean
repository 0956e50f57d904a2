/- The sums of "abc", by the kernel. -/
import Derived.Test.YtladojcbbhphfaaSum512
import Derived.Lib.SlBytesConst
namespace Go.Proofs.Ytladojcbbhphfaa
open Go.RowKit Go.Deep

section
variable {n : Nat} (k : Kind n)
/-- The words of a block, the last first. -/
def Kind.evL (b : Nat → BitVec n) : Nat → List (BitVec n)
  | 0 => []
  | i + 1 => (if i < 16 then b i else k.low1 ((Kind.evL b i).getD 1 0) + (Kind.evL b i).getD 6 0 + k.low0 ((Kind.evL b i).getD 14 0) + (Kind.evL b i).getD 15 0) :: Kind.evL b i
theorem Kind.evL_get (b : Nat → BitVec n) : ∀ i t, t < i → (k.evL b i).getD (i - 1 - t) 0 = k.sched b t
  | 0, t, h => by omega
  | i + 1, t, h => by
    by_cases e : t = i
    · subst e
      rw [show t + 1 - 1 - t = 0 by omega, Kind.evL, List.getD_cons_zero]
      by_cases h16 : t < 16
      · rw [if_pos h16, Kind.sched_low _ _ _ h16]
      · rw [if_neg h16, Kind.sched_high _ _ _ (by omega), ← Kind.evL_get b t (t - 2) (by omega), ← Kind.evL_get b t (t - 7) (by omega), ← Kind.evL_get b t (t - 15) (by omega), ← Kind.evL_get b t (t - 16) (by omega)]
        rw [show t - 1 - (t - 2) = 1 by omega, show t - 1 - (t - 7) = 6 by omega, show t - 1 - (t - 15) = 14 by omega, show t - 1 - (t - 16) = 15 by omega]
    · rw [show i + 1 - 1 - t = (i - 1 - t) + 1 by omega, Kind.evL, List.getD_cons_succ]
      exact Kind.evL_get b i t (by omega)
theorem Kind.rnd_congr {W W' : Nat → BitVec n} (s : S8 n) : ∀ t, (∀ j, j < t → W j = W' j) → k.rnd W s t = k.rnd W' s t
  | 0, _ => rfl
  | t + 1, h => by rw [Kind.rnd, Kind.rnd, Kind.rnd_congr s t (fun j hj => h j (by omega)), h t (by omega)]
theorem Kind.press_ev (s : S8 n) (blk : List UInt8) : k.press s blk = S8.add s (k.rnd (fun t => (k.evL (k.word blk) k.rounds).getD (k.rounds - 1 - t) 0) s k.rounds) := by
  unfold Kind.press
  congr 1
  exact k.rnd_congr s _ fun j hj => (k.evL_get _ _ _ hj).symm
theorem Kind.sum_one (m : List UInt8) (h : (k.pad m).length / k.block = 1) : k.sum m = k.out (S8.add k.first (k.rnd (fun t => (k.evL (k.word (((k.pad m).drop (k.block * 0)).take k.block)) k.rounds).getD (k.rounds - 1 - t) 0) k.first k.rounds)) 8 := by
  unfold Kind.sum
  rw [h]
  show k.out (k.press k.first _) 8 = _
  rw [k.press_ev]
end
theorem abc256 : (k256.sum [97, 98, 99]).take 4 = [186, 120, 22, 191] := by
  rw [Kind.sum_one k256 [97, 98, 99] (by kernel_rfl)]
  kernel_rfl
theorem abc512 : (k512.sum [97, 98, 99]).take 4 = [221, 175, 53, 161] := by
  rw [Kind.sum_one k512 [97, 98, 99] (by kernel_rfl)]
  kernel_rfl

theorem Bs.lit (w : World) (l : List UInt8) (fr : Nat × Nat) (n : Nat) (hn : n = l.length) (hm : n ≤ maxLen) : Bs (w.alloc (.cells (u8s l).toArray 5 fr)) (.slice (some ⟨w.heap.size, 0, none⟩) n n) l := by
  subst hn
  refine ⟨_, l.length, rfl, Nat.le_refl _, hm, (fun h => by cases h), fun x hx i hi => ?_⟩
  cases hx
  refine ⟨by show w.heap.size < (w.alloc _).heap.size; simp, ?_⟩
  rw [add_eq, Nat.zero_add]
  refine (World.cell?_alloc_mark w _ _ fr i).trans ?_
  simp [u8s, hi]

/-- 's[:4]'. -/
theorem to_four {w : World} {ad : Option Addr} {n cap : Nat} {l : List UInt8} (hB : Bs w (.slice ad n cap) l) (hn : 4 ≤ n) :
    (Instr.sliceAt 22 (.slice ad n cap) none (some (.int .i64 4)) none).run Try.prog w = .ok (.slice ad 4 cap) w := by
  obtain ⟨a', cap', he, h1, h2, h3, h4⟩ := hB
  cases he
  cases hq : Try.prog.info? 5 with
  | none =>
    have := Try.info5
    simp [hq] at this
  | some i =>
    have hs : i.size = 1 := by
      have := Try.info5
      simp [hq] at this
      exact this.2.1
    have hcap : ¬ cap = 0 := by omega
    obtain ⟨x, rfl⟩ : ∃ x, ad = some x := by
      cases ad with
      | none => have := h3 rfl; omega
      | some x => exact ⟨x, rfl⟩
    have hx : x.add 0 = x := by unfold Addr.add; simp
    have hb := run_bound_in (P := Try.prog) w .i64 4 cap .sliceAcap (by omega)
    simp [Instr.sliceAt, run_underlying Try.underlying22 w, Instr.slice, Instr.sliceBounds, sizeOf, typeInfo, hq, hs, hcap, hx, Result.andThen]
    have hb' : (Instr.sliceBound (.int .i64 4) cap .sliceAcap).run Try.prog w = .ok 4 w := hb
    simp [hb', hcap, hx]

end Go.Proofs.Ytladojcbbhphfaa
