/- missivelaw3.Sha3Limits: the walk. -/
import Derived.Test.YtmfogngfdgpahaaDoorKecG
namespace Go.Proofs.YtmfogngfdgpahaaDoor
open Go.RowKit Go.Deep

theorem shake128_len (n : Int) (w : World) (hL : Laid3 w) (hn2 : n ≤ 9223372036854775807) :
    Calls Tryd.prog 14 #[.int .i64 n, .slice none 0 0] w fun e w' => ∃ a m c, e = .returned (.slice a m c) ∧ m = (min n 65536).toNat ∧ Below w.heap.size w w' := by
  refine (shake128_any n _ [] w hL (Bss.nil _) hn2).mono ?_
  rintro e w2 ⟨v, rfl, hB, hb⟩
  obtain ⟨a, m, c, rfl, e1, _⟩ := hB.shape
  rw [spongeL_length] at e1
  exact ⟨a, m, c, rfl, e1.symm, hb⟩
theorem shake256_len (n : Int) (w : World) (hL : Laid3 w) (hn2 : n ≤ 9223372036854775807) :
    Calls Tryd.prog 16 #[.int .i64 n, .slice none 0 0] w fun e w' => ∃ a m c, e = .returned (.slice a m c) ∧ m = (min n 65536).toNat ∧ Below w.heap.size w w' := by
  refine (shake256_any n _ [] w hL (Bss.nil _) hn2).mono ?_
  rintro e w2 ⟨v, rfl, hB, hb⟩
  obtain ⟨a, m, c, rfl, e1, _⟩ := hB.shape
  rw [spongeL_length] at e1
  exact ⟨a, m, c, rfl, e1.symm, hb⟩
theorem rread_len (y : Nat) (b : List UInt8) (p : Nat) (n : Int) (w : World) (hL : Laid3 w) (hR : ReaderAt w y b p) (hy : 3 ≤ y) (h0 : 1 ≤ n) (h1 : n ≤ 65536) :
    Calls Tryd.prog 21 #[.pointer (some ⟨y, 0, none⟩), .int .i64 n] w fun e w' => ∃ a m c, e = .returned (.slice a m c) ∧ m = n.toNat ∧ w.grownBy w' (some y) := by
  refine (rread_in y b p n w hL hR hy h0 h1).mono ?_
  rintro e w2 ⟨v, rfl, hB, _, hg⟩
  obtain ⟨a, m, c, rfl, e1, _⟩ := hB.shape
  rw [pieceL_length] at e1
  exact ⟨a, m, c, rfl, e1.symm, hg⟩

set_option maxHeartbeats 4000000 in
theorem law_sha3Limits (w : World) (hL : Laid3 w) (n : Int) (hn : (Lit.int .i64 n).wf = true) :
    Calls Tryd.prog 7 #[.int .i64 n] w fun e w' => e = .returned (.bool true) ∧ Below w.heap.size w w' := by
  obtain ⟨hn0, hn1⟩ := bd_i64 hn
  have HT := Lib.hid hL
  have hS := hL.size
  clear hL hn
  by_cases c1 : n > 70000
  · go_enter Tryd.func7, Tryd.ntmps7
    go_wp2_with (go_at_call 9; refine (awake3_any _ HT.out).mono ?_; rintro e w2 ⟨rfl, hb2⟩)
    go_ret
    exact ⟨rfl, hb2⟩
  by_cases c2 : 300 < n ∧ n < 65000
  · obtain ⟨k1, k2⟩ := c2
    have k3 : n > 300 := k1
    go_enter Tryd.func7, Tryd.ntmps7
    go_wp2_with (go_at_call 9; refine (awake3_any _ HT.out).mono ?_; rintro e w2 ⟨rfl, hb2⟩)
    go_ret
    exact ⟨rfl, hb2⟩
  have k0 : ¬ n > 70000 := c1
  by_cases c3 : n < 0
  · have k1 : ¬ n > 300 := by omega
    have k2 : n ≤ 0 := by omega
    go_enter Tryd.func7, Tryd.ntmps7
    go_wp2_with (first
      | (go_at_call 20; refine (newReader_any _ [] _ HT.out (Bss.nil _)).mono ?_; rintro e w1 ⟨y, rfl, hyw, hR1, hb1⟩
         have hT1 := HT.out.below hb1 hS
         have hy3 : 3 ≤ y := by omega
         have hb := hb1)
      | (go_at_call 14; refine (shake128_len _ _ hT1 (by omega)).mono ?_; rintro e w2 ⟨a2, m2, c2, rfl, hm2, hb2⟩
         have hT2 := hT1.below hb2 hT1.size
         have hR2 : ReaderAt w2 y [] 0 := hR1.of_block (hb2.block _ hR1.lt)
         replace hb := hb.trans (hb2.mono hb.size)
         have q2 : ((m2 : Int) == 0) = true := by simp; omega
         clear hm2 hb2)
      | (go_at_call 16; refine (shake256_len _ _ hT2 (by omega)).mono ?_; rintro e w3 ⟨a3, m3, c3, rfl, hm3, hb3⟩
         have hT3 := hT2.below hb3 hT2.size
         have hR3 : ReaderAt w3 y [] 0 := hR2.of_block (hb3.block _ hR2.lt)
         replace hb := hb.trans (hb3.mono hb.size)
         have q3 : ((m3 : Int) == 0) = true := by simp; omega
         clear hm3 hb3)
      | (go_at_call 21; refine (rread_out y _ _ (by omega)).mono ?_; rintro e w4 ⟨rfl, rfl⟩
         have hT4 := hT3)
      | (go_at_call 9; refine (awake3_any _ hT4).mono ?_; rintro e w5 ⟨rfl, hb5⟩
         replace hb := hb.trans (hb5.mono hb.size)))
    go_ret
    exact ⟨rfl, hb⟩
  by_cases c4 : n = 0
  · subst c4
    go_enter Tryd.func7, Tryd.ntmps7
    go_wp2_with (first
      | (go_at_call 20; refine (newReader_any _ [] _ HT.out (Bss.nil _)).mono ?_; rintro e w1 ⟨y, rfl, hyw, hR1, hb1⟩
         have hT1 := HT.out.below hb1 hS
         have hy3 : 3 ≤ y := by omega
         have hb := hb1)
      | (go_at_call 14; refine (shake128_len _ _ hT1 (by omega)).mono ?_; rintro e w2 ⟨a2, m2, c2, rfl, hm2, hb2⟩
         have hT2 := hT1.below hb2 hT1.size
         have hR2 : ReaderAt w2 y [] 0 := hR1.of_block (hb2.block _ hR1.lt)
         replace hb := hb.trans (hb2.mono hb.size)
         have q2 : ((m2 : Int) == 0) = true := by simp; omega
         clear hm2 hb2)
      | (go_at_call 16; refine (shake256_len _ _ hT2 (by omega)).mono ?_; rintro e w3 ⟨a3, m3, c3, rfl, hm3, hb3⟩
         have hT3 := hT2.below hb3 hT2.size
         have hR3 : ReaderAt w3 y [] 0 := hR2.of_block (hb3.block _ hR2.lt)
         replace hb := hb.trans (hb3.mono hb.size)
         have q3 : ((m3 : Int) == 0) = true := by simp; omega
         clear hm3 hb3)
      | (go_at_call 21; refine (rread_out y _ _ (by omega)).mono ?_; rintro e w4 ⟨rfl, rfl⟩
         have hT4 := hT3)
      | (go_at_call 9; refine (awake3_any _ hT4).mono ?_; rintro e w5 ⟨rfl, hb5⟩
         replace hb := hb.trans (hb5.mono hb.size)))
    go_ret
    exact ⟨rfl, hb⟩
  have z0 : 0 ≤ n := by omega
  by_cases c5 : n ≤ 65536
  · have z1 : ¬ n > 65536 := by omega
    by_cases c6 : n ≤ 300
    · have k1 : ¬ n > 300 := by omega
      go_enter Tryd.func7, Tryd.ntmps7
      go_wp2_with (first
        | (go_at_call 20; refine (newReader_any _ [] _ HT.out (Bss.nil _)).mono ?_; rintro e w1 ⟨y, rfl, hyw, hR1, hb1⟩
           have hT1 := HT.out.below hb1 hS
           have hy3 : 3 ≤ y := by omega
           have hb := hb1)
        | (go_at_call 14; refine (shake128_len _ _ hT1 (by omega)).mono ?_; rintro e w2 ⟨a2, m2, c2, rfl, hm2, hb2⟩
           have hT2 := hT1.below hb2 hT1.size
           have hR2 : ReaderAt w2 y [] 0 := hR1.of_block (hb2.block _ hR1.lt)
           replace hb := hb.trans (hb2.mono hb.size)
           have q2 : ((m2 : Int) == n) = true := by simp; omega
           clear hm2 hb2)
        | (go_at_call 16; refine (shake256_len _ _ hT2 (by omega)).mono ?_; rintro e w3 ⟨a3, m3, c3, rfl, hm3, hb3⟩
           have hT3 := hT2.below hb3 hT2.size
           have hR3 : ReaderAt w3 y [] 0 := hR2.of_block (hb3.block _ hR2.lt)
           replace hb := hb.trans (hb3.mono hb.size)
           have q3 : ((m3 : Int) == n) = true := by simp; omega
           clear hm3 hb3)
        | (go_at_call 21; refine (rread_len y [] 0 _ _ hT3 hR3 hy3 (by omega) (by omega)).mono ?_; rintro e w4 ⟨a4, m4, c4, rfl, hm4, hg4⟩
           have hT4 := hT3.grown hg4 hy3
           replace hb := gb_below hb hg4 hb.size hyw
           have q4 : ((m4 : Int) == n) = true := by simp; omega
           clear hm4 hg4)
        | (go_at_call 9; refine (awake3_any _ hT4).mono ?_; rintro e w5 ⟨rfl, hb5⟩
           replace hb := hb.trans (hb5.mono hb.size)))
      go_ret
      exact ⟨rfl, hb⟩
    · have k1 : n > 300 := by omega
      have k2 : ¬ n < 65000 := by omega
      go_enter Tryd.func7, Tryd.ntmps7
      go_wp2_with (first
        | (go_at_call 20; refine (newReader_any _ [] _ HT.out (Bss.nil _)).mono ?_; rintro e w1 ⟨y, rfl, hyw, hR1, hb1⟩
           have hT1 := HT.out.below hb1 hS
           have hy3 : 3 ≤ y := by omega
           have hb := hb1)
        | (go_at_call 14; refine (shake128_len _ _ hT1 (by omega)).mono ?_; rintro e w2 ⟨a2, m2, c2, rfl, hm2, hb2⟩
           have hT2 := hT1.below hb2 hT1.size
           have hR2 : ReaderAt w2 y [] 0 := hR1.of_block (hb2.block _ hR1.lt)
           replace hb := hb.trans (hb2.mono hb.size)
           have q2 : ((m2 : Int) == n) = true := by simp; omega
           clear hm2 hb2)
        | (go_at_call 16; refine (shake256_len _ _ hT2 (by omega)).mono ?_; rintro e w3 ⟨a3, m3, c3, rfl, hm3, hb3⟩
           have hT3 := hT2.below hb3 hT2.size
           have hR3 : ReaderAt w3 y [] 0 := hR2.of_block (hb3.block _ hR2.lt)
           replace hb := hb.trans (hb3.mono hb.size)
           have q3 : ((m3 : Int) == n) = true := by simp; omega
           clear hm3 hb3)
        | (go_at_call 21; refine (rread_len y [] 0 _ _ hT3 hR3 hy3 (by omega) (by omega)).mono ?_; rintro e w4 ⟨a4, m4, c4, rfl, hm4, hg4⟩
           have hT4 := hT3.grown hg4 hy3
           replace hb := gb_below hb hg4 hb.size hyw
           have q4 : ((m4 : Int) == n) = true := by simp; omega
           clear hm4 hg4)
        | (go_at_call 9; refine (awake3_any _ hT4).mono ?_; rintro e w5 ⟨rfl, hb5⟩
           replace hb := hb.trans (hb5.mono hb.size)))
      go_ret
      exact ⟨rfl, hb⟩
  · have z1 : n > 65536 := by omega
    have k1 : n > 300 := by omega
    have k2 : ¬ n < 65000 := by omega
    go_enter Tryd.func7, Tryd.ntmps7
    go_wp2_with (first
      | (go_at_call 20; refine (newReader_any _ [] _ HT.out (Bss.nil _)).mono ?_; rintro e w1 ⟨y, rfl, hyw, hR1, hb1⟩
         have hT1 := HT.out.below hb1 hS
         have hy3 : 3 ≤ y := by omega
         have hb := hb1)
      | (go_at_call 14; refine (shake128_len _ _ hT1 (by omega)).mono ?_; rintro e w2 ⟨a2, m2, c2, rfl, hm2, hb2⟩
         have hT2 := hT1.below hb2 hT1.size
         have hR2 : ReaderAt w2 y [] 0 := hR1.of_block (hb2.block _ hR1.lt)
         replace hb := hb.trans (hb2.mono hb.size)
         have q2 : ((m2 : Int) == 65536) = true := by simp; omega
         clear hm2 hb2)
      | (go_at_call 16; refine (shake256_len _ _ hT2 (by omega)).mono ?_; rintro e w3 ⟨a3, m3, c3, rfl, hm3, hb3⟩
         have hT3 := hT2.below hb3 hT2.size
         have hR3 : ReaderAt w3 y [] 0 := hR2.of_block (hb3.block _ hR2.lt)
         replace hb := hb.trans (hb3.mono hb.size)
         have q3 : ((m3 : Int) == 65536) = true := by simp; omega
         clear hm3 hb3)
      | (go_at_call 21; refine (rread_out y _ _ (by omega)).mono ?_; rintro e w4 ⟨rfl, rfl⟩
         have hT4 := hT3)
      | (go_at_call 9; refine (awake3_any _ hT4).mono ?_; rintro e w5 ⟨rfl, hb5⟩
         replace hb := hb.trans (hb5.mono hb.size)))
    go_ret
    exact ⟨rfl, hb⟩
end Go.Proofs.YtmfogngfdgpahaaDoor
