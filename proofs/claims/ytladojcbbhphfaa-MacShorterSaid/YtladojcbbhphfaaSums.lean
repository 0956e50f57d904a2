/- Hash256: Copy and Sum; Sum256. -/
import Derived.Test.YtladojcbbhphfaaHash
import Derived.Test.YtladojcbbhphfaaCat
namespace Go.Proofs.Ytladojcbbhphfaa
open Go.RowKit Go.Deep

def zero8 : S8 32 := ⟨0, 0, 0, 0, 0, 0, 0, 0⟩
theorem zero73 : (Try.prog.info? 62).map (fun i => i.zero) = some (some (.agg (arrOf 73 (hashF zero8 (fun _ => 0) 0)))) := by kernel_rfl
theorem arr73 : IsArr Try.prog 62 73 := ⟨by kernel_rfl, by kernel_rfl⟩
theorem hashF_one (s : S8 32) (blk : Nat → UInt8) (z : Nat) (j : Nat) (_h : j < 73) : (hashF s blk z j).oneCell' = true := by
  unfold hashF
  split
  · rfl
  · split <;> rfl
/-- A new one. -/
theorem HashAt.new (w : World) : HashAt (w.alloc (.cells (arrOf 73 (hashF zero8 (fun _ => 0) 0)) 62)) w.heap.size [] :=
  ⟨zero8, fun _ => 0, rowIs_arr w 73 _ _, fun h => absurd rfl h⟩
theorem HashAt.below {w w' : World} {y B : Nat} {m : List UInt8} (h : HashAt w y m) (hb : Below B w w') (hB : w.heap.size ≤ B) : HashAt w' y m := h.of_block (hb.block _ (Nat.lt_of_lt_of_le h.lt hB))

theorem out_length {n : Nat} (k : Kind n) (s : S8 n) (b : Nat) (hb : k.bytes = b) : ∀ j, (k.out s j).length = b * j
  | 0 => rfl
  | j + 1 => by
    show (k.out s j ++ bigB (s.at j).toNat k.bytes).length = _
    rw [List.length_append, out_length k s b hb j, bigB_length, hb, Nat.mul_succ]
/-- A slice of the call's own stands behind calls that make no more than new blocks. -/
theorem Owns.below {w w' : World} {base : Nat} {v : Value} {l : List UInt8} (h : Owns w base v l) (hb : Below w.heap.size w w') : Owns w' base v l := by
  obtain ⟨h1, h2⟩ := h
  refine ⟨h1, ?_⟩
  rcases h2 with h2 | ⟨g, cap, cur, rfl, hbg, hg, h3⟩
  · exact .inl h2
  · exact .inr ⟨g, cap, cur, rfl, hbg, (hb.block g (Array.getElem?_eq_some_iff.1 hg).1).trans hg, h3⟩

set_option maxHeartbeats 1600000 in
theorem hcopy_any (y : Nat) (m : List UInt8) (w : World) (hH : HashAt w y m) :
    Calls Try.prog 36 #[.pointer (some ⟨y, 0, none⟩)] w fun e w' => e = .returned (.pointer (some ⟨w.heap.size, 0, none⟩)) ∧ HashAt w' w.heap.size m ∧ Below w.heap.size w w' := by
  obtain ⟨s, blk, hrow, hD⟩ := hH
  have hnew := rowIs_arr w 73 (hashF zero8 (fun _ => 0) 0) 62
  go_enter Try.func36, Try.ntmps36
  go_wp2_with (first
    | refine wpList_load_arr rfl 62 (.tmp 7) rfl 73 arr73 hrow rfl (by omega) ?_
    | refine wpList_alloc_arr rfl 62 rfl (arrOf 73 (hashF zero8 (fun _ => 0) 0)) zero73 ?_
    | (refine wpList_store_arr rfl 62 (.tmp 3) (.tmp 8) rfl 73 arr73 hnew rfl rfl (by omega) (fun j hj => hashF_one s blk m.length _ (by omega)) ?_; intro w3 hr3 hg3 hs3))
  go_ret
  refine ⟨rfl, ⟨s, blk, hr3.congr fun i hi => ?_, hD⟩, ((Below.refl _ _).alloc (Nat.le_refl _) _).grown hg3 (by simp) (by intro k hk; cases hk; omega)⟩
  unfold putN
  rw [if_pos (by omega)]
  simp only [Nat.sub_zero, Nat.zero_add]

set_option maxHeartbeats 4000000 in
theorem hsumO_any (y : Nat) (m : List UInt8) (w : World) (hH : HashAt w y m) (hlen : m.length < 2 ^ 59) :
    Calls Try.prog 25 #[.pointer (some ⟨y, 0, none⟩)] w fun e w' => ∃ v, e = .returned v ∧ Owns w' w.heap.size v (k256.sum m) ∧ Below w.heap.size w w' := by
  have hE := endOf_length m.length 64 (by omega)
  have hE2 := (endRoom_ge m.length 64 (by omega)).2
  go_enter Try.func25, Try.ntmps25
  go_wp2_with (first
    | (go_at_call 36; refine (hcopy_any y m _ hH).mono ?_; rintro e w1 ⟨rfl, hC1, hb1⟩
       have hsz1 : w1.cell? ⟨y, 72, none⟩ = some (.int .u64 (m.length : Int)) := by
         obtain ⟨s, blk, hrow, hD⟩ := hH.below hb1 (Nat.le_refl _)
         exact hrow.cell (i := 72) (by omega))
    | (go_at_call 37; refine (ending64_any m.length _ (by omega)).mono ?_; rintro e w2 ⟨v2, rfl, hB2, hb2, c2, hv2e⟩
       have hC2 := hC1.below hb2 (Nat.le_refl _)
       have hv2 : Away v2 w.heap.size := fun x n c he _ => by
         rw [hv2e] at he
         cases he
         show w1.heap.size ≠ w.heap.size
         have := hC1.lt
         omega
       have hb02 := hb1.trans (hb2.mono hb1.size)
       clear hv2e hsz1)
    | (go_at_call 24; refine (hadd_any w.heap.size m _ _ _ hC2 hB2 hv2 (by omega)).mono ?_; rintro e w3 ⟨rfl, hC3, hg3⟩
       have hb03 := hb02.grown hg3 hb02.size (by intro k hk; cases hk; omega)
       obtain ⟨s, blk, hr3, hD3⟩ := hC3
       replace hD3 := hD3 (by intro h; have h1 := congrArg List.length h; have h2 := (endRoom_ge m.length 64 (by omega)).1; rw [List.length_append, hE] at h1; simp only [List.length_nil] at h1; omega)
       have hsum : k256.out s 8 = k256.sum m := Dig.sum hD3)
    | (refine wpList_load_arr rfl 54 (.tmp 20) rfl 8 arr8_32 hr3 rfl (by omega) ?_
       rw [hash_state]))
  have HS := Lib.hid hsum
  clear hsum hb1 hb2 hb02 hg3 hC1 hC2 hB2 hv2 hD3 hr3 hE hE2
  go_loopw [4, 22] (fun out i wr => ∃ j : Nat, j ≤ 8 ∧ i = .int .i64 j ∧ Owns wr w.heap.size out (k256.out s j) ∧ Below w.heap.size w wr) (fun _ i _ => 8 - (intOf i).toNat)
  case atStart => exact ⟨0, Nat.zero_le _, rfl, Owns.nil _ _, hb03⟩
  case round =>
    clear hb03
    obtain ⟨j, hj, rfl, hown, hbel⟩ := hrel
    by_cases hlt : j < 8
    · have hw : w32 s.at j = .int .u32 ((s.at j).toNat : Int) := rfl
      have hol : (k256.out s j).length = 4 * j := out_length k256 s 4 rfl j
      go_wp2_with (first
        | refine wpList_index_arr rfl 54 53 (.tmp 21) (.tmp 22) rfl 8 Try.underlying54 _ Try.underlying53 rfl (by kernel_rfl) rfl rfl hlt ?_
        | (go_at_call 38; refine (put32_any (s.at j).toNat _ (s.at j).isLt).mono ?_; rintro e w5 ⟨v5, rfl, hB5, hb5⟩
           have hown5 : Owns w5 w.heap.size _ (k256.out s j) := hown.below hb5
           have hbel5 := hbel.trans (hb5.mono hbel.size)
           clear hb5)
        | (refine wpList_app rfl _ _ rfl w.heap.size _ _ (k256.out s j) _ hown5 hB5 rfl rfl (by rw [hol, bigB_length]; omega) hbel5.size ?_; intro v6 w6 hown6 hgrow6))
      have hbel6 : Below w.heap.size w w6 := hbel5.grown hgrow6 hbel5.size (Owns.block hown5)
      clear hown5 hgrow6 hB5
      go_wp2
      go_roundw
      case rel => exact ⟨j + 1, by omega, by go_num, hown6, hbel6⟩
      case measure => simp [intOf]; omega
    · obtain rfl : j = 8 := by omega
      go_wp2
      go_ret
      exact ⟨_, rfl, by rw [← HS.out]; exact hown, hbel⟩
theorem hsum_any (y : Nat) (m : List UInt8) (w : World) (hH : HashAt w y m) (hlen : m.length < 2 ^ 59) :
    Calls Try.prog 25 #[.pointer (some ⟨y, 0, none⟩)] w fun e w' => ∃ v, e = .returned v ∧ Bs w' v (k256.sum m) ∧ Below w.heap.size w w' :=
  (hsumO_any y m w hH hlen).mono fun e w' ⟨v, h1, h2, h3⟩ => ⟨v, h1, h2.bs, h3⟩
end Go.Proofs.Ytladojcbbhphfaa
