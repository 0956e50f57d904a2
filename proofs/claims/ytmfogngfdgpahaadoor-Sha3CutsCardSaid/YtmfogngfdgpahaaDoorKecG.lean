/- What the document answers: Sha3, Shake; what the document fixes of the program. -/
import Derived.Test.YtmfogngfdgpahaaDoorKecF
import Derived.Test.YtmfogngfdgpahaaDoorKecS2
import Derived.Test.YtmfogngfdgpahaaDoorKecN
import Derived.Test.YtmfogngfdgpahaaDoorAlike
namespace Go.Proofs.YtmfogngfdgpahaaDoor
open Go.RowKit Go.Deep

/-- 's[:k]', k short of the length and not nought. -/
theorem run_sliceTo {w : World} {ad : Option Addr} {n cap : Nat} {l : List UInt8} (hB : Bs w (.slice ad n cap) l) (k : Nat) (hn : k ≤ n) (h0 : 0 < k) :
    (Instr.sliceAt 25 (.slice ad n cap) none (some (.int .i64 (k : Int))) none).run Tryd.prog w = .ok (.slice ad k cap) w := by
  obtain ⟨a', cap', he, h1, h2, h3, h4⟩ := hB
  cases he
  cases hq : Tryd.prog.info? 5 with
  | none =>
    have := Try.info5
    simp [hq] at this
  | some i =>
    have hs : i.size = 1 := by
      have := Try.info5
      simp [hq] at this
      exact this.2.1
    have hcap : ¬ cap = 0 := by omega
    obtain ⟨x, rfl⟩ : ∃ x, ad = some x := by
      cases ad with
      | none => have := h3 rfl; omega
      | some x => exact ⟨x, rfl⟩
    have hx : x.add 0 = x := by unfold Addr.add; simp
    have hb := run_bound_in (P := Tryd.prog) w .i64 k cap .sliceAcap (by omega)
    simp [Instr.sliceAt, run_underlying Tryd.underlying25 w, Instr.slice, Instr.sliceBounds, sizeOf, typeInfo, hq, hs, hcap, hx, hb, Result.andThen]

theorem Bss.nil (w : World) : Bss w (.slice none 0 0) [] := ⟨none, 0, rfl, by simp, by simp [maxLen], (fun _ => rfl), (fun x h => by cases h)⟩

set_option maxHeartbeats 1600000 in
theorem awake3_any (w : World) (hL : Laid3 w) : Calls Tryd.prog 9 #[] w fun e w' => e = .returned (.bool true) ∧ Below w.heap.size w w' := by
  have HT := Lib.hid hL
  clear hL
  go_enter Tryd.func9, Tryd.ntmps9
  go_wp2_with (go_at_call 11; refine (sum3_256_any _ [] _ HT.out (Bss.nil _)).mono ?_; rintro e w1 ⟨v1, rfl, hB1, hb1⟩
               obtain ⟨a1, n1, c1, rfl, e1, f1, g1, hB3⟩ := hB1.shape
               rw [spongeL_length] at e1
               subst e1
               have t1 := (hB3.take (k := 3) (by omega)).conv
               rw [show ([] : List (List UInt8)).flatten = [] from rfl, none256] at t1
               have s1 := run_sliceTo hB3 3 (by omega) (by omega)
               clear hB1 hB3)
  go_ret
  exact ⟨rfl, hb1⟩

theorem refSponge_lit (r : Int) (e : Int) (E : UInt8) (v : Value) (l : List UInt8) (n : Int) (w : World) (hE : e = (E.toNat : Int)) (hr0 : 0 < r) (hr : r < 200) (he : E.toNat < 128) (hv : Bs w v l) (hlen : l.length < 2 ^ 30) (hn0 : 0 ≤ n) (hn : n ≤ 65536) :
    Calls Tryd.prog 24 #[.int .i64 r, .int .u8 e, v, .int .i64 n] w fun e' w' => ∃ v', e' = .returned v' ∧ Bs w' v' (spongeL r.toNat E.toNat l n.toNat) ∧ Below w.heap.size w w' := by
  have h := refSponge_any r.toNat E v l n.toNat w (by omega) (by omega) he hv hlen (by omega)
  rw [show (r.toNat : Int) = r by omega, show (n.toNat : Int) = n by omega] at h
  rw [hE]
  exact h
set_option maxHeartbeats 800000 in
theorem refSha3_any (n : Int) (v : Value) (l : List UInt8) (w : World) (hv : Bs w v l) (hlen : l.length < 2 ^ 30) (hn0 : 1 ≤ n) (hn : n ≤ 64) :
    Calls Tryd.prog 12 #[.int .i64 n, v] w fun e w' => ∃ v', e = .returned v' ∧ Bs w' v' (spongeL (200 - 2 * n).toNat 6 l n.toNat) ∧ Below w.heap.size w w' := by
  have HV := Lib.hid hv
  clear hv
  go_enter Tryd.func12, Tryd.ntmps12
  go_wp2_with (go_at_call 24; refine (refSponge_lit _ _ 6 _ l _ _ rfl (by omega) (by omega) (by decide) HV.out hlen (by omega) (by omega)).mono ?_; rintro e w2 ⟨v', rfl, hB2, hb2⟩)
  go_ret
  exact ⟨_, rfl, hB2, hb2⟩
set_option maxHeartbeats 800000 in
theorem refShake_any (k n : Int) (v : Value) (l : List UInt8) (w : World) (hv : Bs w v l) (hlen : l.length < 2 ^ 30) (hk0 : 1 ≤ k) (hk : k ≤ 64) (hn2 : n ≤ 9223372036854775807) :
    Calls Tryd.prog 15 #[.int .i64 k, .int .i64 n, v] w fun e w' => ∃ v', e = .returned v' ∧ Bs w' v' (spongeL (200 - 2 * k).toNat 31 l (min n 65536).toNat) ∧ Below w.heap.size w w' := by
  have HV := Lib.hid hv
  clear hv
  by_cases hn : n < 1
  · rw [show (min n 65536).toNat = 0 by omega]
    go_enter Tryd.func15, Tryd.ntmps15
    go_wp2
    go_ret
    exact ⟨_, rfl, Bs.nil w, Below.refl _ _⟩
  · go_enter Tryd.func15, Tryd.ntmps15
    go_wp2_with fail
    all_goals
      refine (refSponge_lit _ _ 31 _ l _ _ rfl (by omega) (by omega) (by decide) HV.out hlen (by omega) (by omega)).mono ?_
      rintro e w2 ⟨v', rfl, hB2, hb2⟩
      go_wp2
      go_ret
      refine ⟨_, rfl, ?_, hb2⟩
    · rw [show min n 65536 = 65536 by omega]; exact hB2
    · rw [show min n 65536 = n by omega]; exact hB2
end Go.Proofs.YtmfogngfdgpahaaDoor
