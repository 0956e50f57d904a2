/- What the program answers: read, the sums, the sponges, the reader. -/
import Derived.Test.YtmfogngfdgpahaaDoorKecE
namespace Go.Proofs.YtmfogngfdgpahaaDoor
open Go.RowKit Go.Deep

theorem give_lit (y : Nat) (t : TypeId) (s0 : Nat → BitVec 64) (r p : Nat) (n : Int) (w : World) (hL : Laid3 w) (hrow : w.rowIs y t 27 (spF (gv r s0 p).1 r (gv r s0 p).2)) (hy : 3 ≤ y) (hr0 : 0 < r) (hr : r < 200) (hn0 : 0 ≤ n) (hn : n ≤ 65536) :
    Calls Tryd.prog 27 #[.pointer (some ⟨y, 0, none⟩), .int .i64 n] w fun e w' => ∃ v, e = .returned v ∧ Bs w' v (pieceL r s0 p n.toNat) ∧ w'.rowIs y t 27 (spF (gv r s0 (p + n.toNat)).1 r (gv r s0 (p + n.toNat)).2) ∧ w.grownBy w' (some y) := by
  have h := give_any y t s0 r p n.toNat w hL hrow hy hr0 hr (by omega)
  rwa [show (n.toNat : Int) = n by omega] at h

set_option maxHeartbeats 1600000 in
theorem read_pos (r e : Nat) (n : Int) (v : Value) (L : List (List UInt8)) (w : World) (hL : Laid3 w) (hB : Bss w v L) (hr0 : 0 < r) (hr : r < 200) (he : e < 256) (hn : 1 ≤ n) (hn2 : n ≤ 9223372036854775807) :
    Calls Tryd.prog 23 #[.int .i64 n, .int .i64 (r : Int), .int .u8 (e : Int), v] w fun e' w' => ∃ v', e' = .returned v' ∧ Bs w' v' (spongeL r e L.flatten (min n 65536).toNat) ∧ Below w.heap.size w w' := by
  have HV := Lib.hid hB
  have HT := Lib.hid hL
  have hS := hL.size
  obtain ⟨a, cap, rfl, h1, h2, h3, h4⟩ := hB
  clear h3 h4 hL
  unfold maxLen at h2
  have hn1 : ¬ n < 1 := by omega
  go_enter Tryd.func23, Tryd.ntmps23
  go_wp2_with (first
    | (go_at_call 26; refine (closed_any r e _ L _ HT.out HV.out hr0 hr he).mono ?_; rintro e' w2 ⟨rfl, hb2⟩
       have hY := rowIs_arr w2 27 (spF zeroS 0 0) 57
       have hb3 := hb2.alloc hb2.size (.cells (arrOf 27 (spF zeroS 0 0)) 57)
       have hs2 := hb2.size)
    | refine wpList_alloc_arr rfl 57 rfl (arrOf 27 (spF zeroS 0 0)) zeroSponge ?_
    | (refine wpList_store_arr rfl 57 (.tmp 9) (.tmp 15) rfl 27 arrSponge hY rfl rfl (by omega) (spF_one _ _ _ _) ?_; intro w4 hY4 hg4 hs4
       replace hY4 := hY4.congr (g := spF (gv r (closedS r e L.flatten) 0).1 r (gv r (closedS r e L.flatten) 0).2) (fun i hi => by unfold putN; rw [if_pos (by omega), Nat.sub_zero]; rfl)
       replace hb3 := gb_below hb3 hg4 (by simp only [World.size_alloc]; omega) hs2
       have hT4 := HT.out.below hb3 hS
       have hs4' : 3 ≤ w2.heap.size := by omega
       clear hY hg4 hb2))
  all_goals
    refine (give_lit _ _ (closedS r e L.flatten) r 0 _ _ hT4 hY4 hs4' hr0 hr (by omega) (by omega)).mono ?_
    rintro e' w5 ⟨v', rfl, hB5, hY5, hg5⟩
    have hb5 := gb_below hb3 hg5 (by have := hb3.size; omega) hs2
    rw [pieceL_zero] at hB5
    clear hY5 hg5
    go_wp2
    go_ret
    refine ⟨_, rfl, ?_, hb5⟩
  · rw [show min n 65536 = 65536 by omega]; exact hB5
  · rw [show min n 65536 = n by omega]; exact hB5

set_option maxHeartbeats 800000 in
theorem read_any (r e : Nat) (n : Int) (v : Value) (L : List (List UInt8)) (w : World) (hL : Laid3 w) (hB : Bss w v L) (hr0 : 0 < r) (hr : r < 200) (he : e < 256) (hn2 : n ≤ 9223372036854775807) :
    Calls Tryd.prog 23 #[.int .i64 n, .int .i64 (r : Int), .int .u8 (e : Int), v] w fun e' w' => ∃ v', e' = .returned v' ∧ Bs w' v' (spongeL r e L.flatten (min n 65536).toNat) ∧ Below w.heap.size w w' := by
  by_cases hn : 1 ≤ n
  · exact read_pos r e n v L w hL hB hr0 hr he hn hn2
  · have hz : (min n 65536).toNat = 0 := by omega
    rw [hz]
    have hn1 : n < 1 := by omega
    clear hz hL
    go_enter Tryd.func23, Tryd.ntmps23
    go_wp2
    go_ret
    exact ⟨_, rfl, Bs.nil w, Below.refl _ _⟩
theorem read_lit (r e : Int) (n : Int) (v : Value) (L : List (List UInt8)) (w : World) (hL : Laid3 w) (hB : Bss w v L) (hr0 : 0 < r) (hr : r < 200) (he0 : 0 ≤ e) (he : e < 256) (hn2 : n ≤ 9223372036854775807) :
    Calls Tryd.prog 23 #[.int .i64 n, .int .i64 r, .int .u8 e, v] w fun e' w' => ∃ v', e' = .returned v' ∧ Bs w' v' (spongeL r.toNat e.toNat L.flatten (min n 65536).toNat) ∧ Below w.heap.size w w' := by
  have h := read_any r.toNat e.toNat n v L w hL hB (by omega) (by omega) (by omega) hn2
  rwa [show (r.toNat : Int) = r by omega, show (e.toNat : Int) = e by omega] at h

theorem sum3_256_any (v : Value) (L : List (List UInt8)) (w : World) (hL : Laid3 w) (hB : Bss w v L) :
    Calls Tryd.prog 11 #[v] w fun e w' => ∃ v', e = .returned v' ∧ Bs w' v' (spongeL 136 6 L.flatten 32) ∧ Below w.heap.size w w' := by
  have HV := Lib.hid hB
  have HT := Lib.hid hL
  clear hB hL
  go_enter Tryd.func11, Tryd.ntmps11
  go_wp2_with (go_at_call 23; refine (read_lit _ _ _ _ L _ HT.out HV.out (by omega) (by omega) (by omega) (by omega) (by omega)).mono ?_; rintro e w2 ⟨v', rfl, hB2, hb2⟩)
  go_ret
  exact ⟨_, rfl, hB2, hb2⟩
theorem sum3_512_any (v : Value) (L : List (List UInt8)) (w : World) (hL : Laid3 w) (hB : Bss w v L) :
    Calls Tryd.prog 13 #[v] w fun e w' => ∃ v', e = .returned v' ∧ Bs w' v' (spongeL 72 6 L.flatten 64) ∧ Below w.heap.size w w' := by
  have HV := Lib.hid hB
  have HT := Lib.hid hL
  clear hB hL
  go_enter Tryd.func13, Tryd.ntmps13
  go_wp2_with (go_at_call 23; refine (read_lit _ _ _ _ L _ HT.out HV.out (by omega) (by omega) (by omega) (by omega) (by omega)).mono ?_; rintro e w2 ⟨v', rfl, hB2, hb2⟩)
  go_ret
  exact ⟨_, rfl, hB2, hb2⟩
theorem shake128_any (n : Int) (v : Value) (L : List (List UInt8)) (w : World) (hL : Laid3 w) (hB : Bss w v L) (hn2 : n ≤ 9223372036854775807) :
    Calls Tryd.prog 14 #[.int .i64 n, v] w fun e w' => ∃ v', e = .returned v' ∧ Bs w' v' (spongeL 168 31 L.flatten (min n 65536).toNat) ∧ Below w.heap.size w w' := by
  have HV := Lib.hid hB
  have HT := Lib.hid hL
  clear hB hL
  go_enter Tryd.func14, Tryd.ntmps14
  go_wp2_with (go_at_call 23; refine (read_lit _ _ _ _ L _ HT.out HV.out (by omega) (by omega) (by omega) (by omega) (by omega)).mono ?_; rintro e w2 ⟨v', rfl, hB2, hb2⟩)
  go_ret
  exact ⟨_, rfl, hB2, hb2⟩
theorem shake256_any (n : Int) (v : Value) (L : List (List UInt8)) (w : World) (hL : Laid3 w) (hB : Bss w v L) (hn2 : n ≤ 9223372036854775807) :
    Calls Tryd.prog 16 #[.int .i64 n, v] w fun e w' => ∃ v', e = .returned v' ∧ Bs w' v' (spongeL 136 31 L.flatten (min n 65536).toNat) ∧ Below w.heap.size w w' := by
  have HV := Lib.hid hB
  have HT := Lib.hid hL
  clear hB hL
  go_enter Tryd.func16, Tryd.ntmps16
  go_wp2_with (go_at_call 23; refine (read_lit _ _ _ _ L _ HT.out HV.out (by omega) (by omega) (by omega) (by omega) (by omega)).mono ?_; rintro e w2 ⟨v', rfl, hB2, hb2⟩)
  go_ret
  exact ⟨_, rfl, hB2, hb2⟩

/-- A reader of all of b at block y, behind p bytes. -/
def ReaderAt (w : World) (y : Nat) (b : List UInt8) (p : Nat) : Prop := w.rowIs y 60 27 (spF (gv 168 (closedS 168 31 b) p).1 168 (gv 168 (closedS 168 31 b) p).2)

set_option maxHeartbeats 800000 in
theorem newReader_any (v : Value) (L : List (List UInt8)) (w : World) (hL : Laid3 w) (hB : Bss w v L) :
    Calls Tryd.prog 20 #[v] w fun e w' => ∃ y, e = .returned (.pointer (some ⟨y, 0, none⟩)) ∧ w.heap.size ≤ y ∧ ReaderAt w' y L.flatten 0 ∧ Below w.heap.size w w' := by
  have HV := Lib.hid hB
  have HT := Lib.hid hL
  clear hB hL
  go_enter Tryd.func20, Tryd.ntmps20
  go_wp2_with (first
    | (go_at_call 26; refine (closed_any 168 31 _ L _ HT.out HV.out (by omega) (by omega) (by omega)).mono ?_; rintro e w2 ⟨rfl, hb2⟩)
    | refine wpList_build_arr rfl 60 _ rfl (arrOf 27 (spF (closedS 168 31 L.flatten) 168 168)) (by kernel_rfl) ?_)
  go_ret
  exact ⟨_, rfl, hb2.size, rowIs_arr w2 27 _ _, hb2.alloc hb2.size _⟩

set_option maxHeartbeats 800000 in
theorem rread_nil (n : Int) (w : World) :
    Calls Tryd.prog 21 #[.pointer none, .int .i64 n] w fun e w' => e = .returned (.slice none 0 0) ∧ w' = w := by
  go_enter Tryd.func21, Tryd.ntmps21
  go_wp2
  go_ret
  exact ⟨rfl, rfl⟩
set_option maxHeartbeats 800000 in
theorem rread_out (y : Nat) (n : Int) (w : World) (h : n < 1 ∨ 65536 < n) :
    Calls Tryd.prog 21 #[.pointer (some ⟨y, 0, none⟩), .int .i64 n] w fun e w' => e = .returned (.slice none 0 0) ∧ w' = w := by
  rcases h with h | h
  · go_enter Tryd.func21, Tryd.ntmps21
    go_wp2
    go_ret
    exact ⟨rfl, rfl⟩
  · have h1 : ¬ n < 1 := by omega
    go_enter Tryd.func21, Tryd.ntmps21
    go_wp2
    go_ret
    exact ⟨rfl, rfl⟩
set_option maxHeartbeats 800000 in
theorem rread_in (y : Nat) (b : List UInt8) (p : Nat) (n : Int) (w : World) (hL : Laid3 w) (hR : ReaderAt w y b p) (hy : 3 ≤ y) (h0 : 1 ≤ n) (h1 : n ≤ 65536) :
    Calls Tryd.prog 21 #[.pointer (some ⟨y, 0, none⟩), .int .i64 n] w fun e w' => ∃ v, e = .returned v ∧ Bs w' v (pieceL 168 (closedS 168 31 b) p n.toNat) ∧ ReaderAt w' y b (p + n.toNat) ∧ w.grownBy w' (some y) := by
  have hn1 : ¬ n < 1 := by omega
  have hn2 : ¬ n > 65536 := by omega
  unfold ReaderAt at hR
  have hrt := hR.cell (i := 25) (by omega)
  rw [spF_rate] at hrt
  have HT := Lib.hid hL
  clear hL
  go_enter Tryd.func21, Tryd.ntmps21
  go_wp2_with (go_at_call 27; refine (give_lit y _ (closedS 168 31 b) 168 p _ _ HT.out hR hy (by omega) (by omega) (by omega) (by omega)).mono ?_; rintro e w2 ⟨v', rfl, hB2, hR2, hg2⟩)
  go_ret
  exact ⟨_, rfl, hB2, hR2, hg2⟩
end Go.Proofs.YtmfogngfdgpahaaDoor
