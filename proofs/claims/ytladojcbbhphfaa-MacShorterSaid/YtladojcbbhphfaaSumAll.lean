/- Sum256 and Sum512 of rows; the Hash256 that is nil. -/
import Derived.Test.YtladojcbbhphfaaSums
namespace Go.Proofs.Ytladojcbbhphfaa
open Go.RowKit Go.Deep

set_option maxHeartbeats 400000 in
theorem addNil_any (vb : Value) (w : World) :
    Calls Try.prog 24 #[.pointer none, vb] w fun e w' => e = .returned (.tuple #[]) ∧ Below w.heap.size w w' := by
  have hbox : (w.alloc (.cells #[.pointer none] 43)).cell? ⟨w.heap.size, 0, none⟩ = some (.pointer none) := by simp
  have hb : Below w.heap.size w (w.alloc (.cells #[.pointer none] 43)) := (Below.refl _ _).alloc (Nat.le_refl _) _
  go_enter Try.func24, Try.ntmps24
  go_wp2
  exact bodyPost_ret (v := .tuple #[]) (by simp [results, Try.results24, go_sem]) rfl ⟨rfl, hb⟩
set_option maxHeartbeats 400000 in
theorem copyNil_any (w : World) :
    Calls Try.prog 36 #[.pointer none] w fun e w' => e = .returned (.pointer none) ∧ w' = w := by
  go_enter Try.func36, Try.ntmps36
  go_wp2
  go_ret
  exact ⟨rfl, rfl⟩
set_option maxHeartbeats 400000 in
theorem sumNil_any (w : World) :
    Calls Try.prog 25 #[.pointer none] w fun e w' => e = .returned (.slice none 0 0) ∧ w' = w := by
  go_enter Try.func25, Try.ntmps25
  go_wp2
  go_ret
  exact ⟨rfl, rfl⟩

set_option maxHeartbeats 1600000 in
theorem sum256_any (v : Value) (L : List (List UInt8)) (w : World) (hv : Bss w v L) (hlen : L.flatten.length < 2 ^ 59) :
    Calls Try.prog 22 #[v] w fun e w' => ∃ v', e = .returned v' ∧ Bs w' v' (k256.sum L.flatten) ∧ Below w.heap.size w w' := by
  have HV := Lib.hid hv
  obtain ⟨a, cap, rfl, h1, h2, h3, h4⟩ := hv
  clear h3 h4
  unfold maxLen at h2
  have hnew := HashAt.new w
  have hb0 : Below w.heap.size w (w.alloc (.cells (arrOf 73 (hashF zero8 (fun _ => 0) 0)) 62)) := (Below.refl _ _).alloc (Nat.le_refl _) _
  go_enter Try.func22, Try.ntmps22
  go_wp2_with (refine wpList_alloc_arr rfl 62 rfl (arrOf 73 (hashF zero8 (fun _ => 0) 0)) zero73 ?_)
  go_loopw [8] (fun i wr => ∃ j : Nat, j ≤ L.length ∧ i = .int .i64 j ∧ HashAt wr w.heap.size (catTo L j) ∧ Below w.heap.size w wr) (fun i _ => L.length - (intOf i).toNat)
  case atStart => exact ⟨0, Nat.zero_le _, rfl, hnew, hb0⟩
  case round =>
    clear hnew hb0
    obtain ⟨j, hj, rfl, hH, hbel⟩ := hrel
    by_cases hlt : j < L.length
    · have hsum : (catTo L j).length + L[j].length ≤ L.flatten.length := by
        have := catTo_le L (j + 1)
        rw [catTo_succ L j hlt, List.length_append] at this
        exact this
      obtain ⟨b, off, cap', he, _, _, hbl, hc⟩ := HV.out.open_cons (by omega)
      cases he
      obtain ⟨u, hcj, hu⟩ := hc j hlt
      clear hc
      have hcr : wr.cell? ⟨b, off + j, none⟩ = some u := (hbel.cell (by exact hbl)).trans hcj
      have HU := Lib.hid (hu.below hbel (Nat.le_refl _))
      have HA : Away u w.heap.size := hu.away (Nat.le_refl _)
      clear hu
      go_wp2_with (go_at_call 24; refine (hadd_any w.heap.size _ _ _ _ hH HU.out HA (by omega)).mono ?_; rintro e w2 ⟨rfl, hH2, hg2⟩)
      rw [← catTo_succ L j hlt] at hH2
      have hbel2 : Below w.heap.size w w2 := hbel.grown hg2 hbel.size (by intro k hk; cases hk; omega)
      clear hH hbel hcr HU HA hg2
      go_wp2
      go_roundw
      case rel => exact ⟨j + 1, by omega, by go_num, hH2, hbel2⟩
      case measure => simp [intOf]; omega
    · obtain rfl : j = L.length := by omega
      rw [catTo_all L L.length (Nat.le_refl _)] at hH
      go_wp2_with (go_at_call 25; refine (hsum_any w.heap.size _ _ hH hlen).mono ?_; rintro e w2 ⟨v2, rfl, hB2, hb2⟩)
      go_wp2
      go_ret
      exact ⟨_, rfl, hB2, hbel.trans (hb2.mono hbel.size)⟩
end Go.Proofs.Ytladojcbbhphfaa
