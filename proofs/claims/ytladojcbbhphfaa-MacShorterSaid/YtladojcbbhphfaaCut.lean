/- sha2's cut: bytes come in, whole blocks are pressed. -/
import Derived.Test.YtladojcbbhphfaaMem
namespace Go.Proofs.Ytladojcbbhphfaa
open Go.RowKit Go.Deep

theorem putN_copy32 (s : S8 32) (blk : Nat → UInt8) (z k c : Nat) (l : List UInt8) (hk : k + c ≤ 64) (i : Nat) : putN (hashF s blk z) (8 + k) c (bytesAt l) i = hashF s (patch blk k c l) z i := by
  unfold putN hashF bytesAt patch
  by_cases e : 8 + k ≤ i ∧ i < 8 + k + c
  · rw [if_pos e, if_neg (by omega), if_pos (by omega), if_pos (by omega), show i - (8 + k) = i - 8 - k by omega]
  · rw [if_neg e]
    by_cases e1 : i < 8
    · rw [if_pos e1, if_pos e1]
    · rw [if_neg e1, if_neg e1]
      by_cases e2 : i < 72
      · rw [if_pos e2, if_pos e2, if_neg (by omega)]
      · rw [if_neg e2, if_neg e2]
theorem putN_copy64 (s : S8 64) (blk : Nat → UInt8) (z k c : Nat) (l : List UInt8) (hk : k + c ≤ 128) (i : Nat) (hi : i < 128) : putN (u8f (lst 128 blk)) (0 + k) c (bytesAt l) i = u8f (lst 128 (patch blk k c l)) i := by
  unfold putN u8f bytesAt
  rw [lst_getD _ _ _ hi, lst_getD _ _ _ hi]
  unfold patch
  by_cases e : 0 + k ≤ i ∧ i < 0 + k + c
  · rw [if_pos e, if_pos (by omega), show i - (0 + k) = i - k by omega]
  · rw [if_neg e, if_neg (by omega)]
theorem M256.copied {w w' : World} {x y : Nat} {s : S8 32} {blk : Nat → UInt8} {z k c p : Nat} {l : List UInt8} (h : M256 w x y s blk z) (hp : p = 8 + k) (hk : k + c ≤ 64) (hr : w'.rowIs y 62 73 (putN (hashF s blk z) p c (bytesAt l))) (hg : w.grownBy w' (some y)) : M256 w' x y s (patch blk k c l) z :=
  ⟨(World.cell?_of_block (w := w) (hg.block _ h.lt (fun e => h.ne (Option.some.inj e)))).trans h.box, Nat.lt_of_lt_of_le h.lt hg.size, h.ne, hr.congr fun i _ => by rw [hp]; exact putN_copy32 s blk z k c l hk i⟩
set_option maxHeartbeats 4000000 in
theorem cut256_any (x y : Nat) (s : S8 32) (blk : Nat → UInt8) (z : Nat) (m l : List UInt8) (vb : Value) (w : World) (hM : M256 w x y s blk z) (hD : Dig k256 m s blk) (hB : Bs w vb l) (hx : Away vb x) (hy : Away vb y) (hlen : m.length + l.length < 2 ^ 60) :
    Calls Try.prog 33 #[.slice (some ⟨y, 8, none⟩) 64 64, .int .u64 m.length, vb, .func (.func 34) #[] #[.pointer (some ⟨x, 0, none⟩)]] w fun e w' =>
      e = .returned (.int .u64 ((m.length + l.length : Nat) : Int)) ∧ ∃ s' blk', M256 w' x y s' blk' z ∧ Dig k256 (m ++ l) s' blk' ∧ Tch x y w w' := by
  obtain ⟨ad0, n0, cap0, rfl, hn0, _, _, hB0⟩ := hB.shape
  go_enter Try.func33, Try.ntmps33
  clear hB
  have HB := Lib.hid hB0
  have HL := Lib.hid hn0
  have hn60 : m.length + n0 < 2 ^ 60 := by omega
  clear hB0 hn0
  go_wp2
  go_loopw [1, 2] (fun size b wr => ∃ (j : Nat) (ad : Option Addr) (cap : Nat) (s : S8 32) (blk : Nat → UInt8) (q : Nat), j ≤ n0 ∧ Hid ((m ++ l.take j).length = q) ∧ Hid (q = m.length + j) ∧ size = .int .u64 (q : Int) ∧ b = .slice ad (n0 - j) cap ∧
    Hid (Bs wr (.slice ad (n0 - j) cap) (l.drop j)) ∧ Away (.slice ad (n0 - j) cap) x ∧ Away (.slice ad (n0 - j) cap) y ∧ M256 wr x y s blk z ∧ Dig k256 (m ++ l.take j) s blk ∧ Tch x y w wr) (fun size _ _ => m.length + n0 - (intOf size).toNat)
  case atStart => exact ⟨0, ad0, cap0, s, blk, m.length, Nat.zero_le _, by rw [List.take_zero, List.append_nil]; rfl, rfl, rfl, rfl, HB.out, hx, hy, hM, by simpa using hD, Tch.refl _ _ _⟩
  case round =>
    clear hM hD HB
    obtain ⟨j, ad, cap, s, blk, q, hj, HQ, hq, rfl, rfl, HB, hax, hay, hM, hD, ht⟩ := hrel
    have hqb : q < 2 ^ 60 := by have := hq.out; omega
    by_cases hlt : j < n0
    · obtain ⟨k, hk⟩ : ∃ k, k = q % 64 := ⟨_, rfl⟩
      have hkB : k < 64 := by omega
      have kI : (q : Int) % 64 = (k : Int) := by omega
      obtain ⟨c, hc⟩ : ∃ c, c = Nat.min (n0 - j) (64 - k) := ⟨_, rfl⟩
      have hc1 : c ≤ n0 - j := by rw [hc]; exact Nat.min_le_left _ _
      have hc2 : c ≤ 64 - k := by rw [hc]; exact Nat.min_le_right _ _
      have hc3 : 0 < c := by rw [hc]; exact Nat.lt_min.2 ⟨by omega, by omega⟩
      have hpos : (0 : Int) < ((n0 - j : Nat) : Int) := by omega
      have HC := Lib.hid hc
      have HK := Lib.hid hk
      have hq60 : q + c < 2 ^ 60 := by have := hq.out; omega
      clear hk hc
      by_cases hfull : k + c = 64
      · have hz : ((q : Int) + (c : Int)) % 64 = 0 := by have := HK.out; omega
        go_wp2_with (first
          | refine wpList_op rfl (.slice 22 (.tmp 17) (some (.tmp 20)) none none) 22 (.slice (some ⟨y, 8 + k, none⟩) (64 - k) (64 - k)) rfl rfl (exec_sliceAt _ _ _ _ _ _ k Try.underlying22 (by kernel_rfl) rfl rfl rfl (by omega) (by omega) rfl rfl rfl) ?_
          | (refine wpList_copy_bytes rfl (.tmp 21) (.tmp 22) rfl hM.row HB.out rfl rfl (by omega) c (by rw [List.length_drop, HL.out]; exact HC.out) ?_; intro w2 hr2 hg2 hs2
             have hM2 := hM.copied (k := k) (by omega) (by omega) hr2 hg2
             have HB2 := Lib.hid (HB.out.touched (Tch.right hg2) hax hay)
             clear HB)
          | (refine wpList_bsFrom rfl (.tmp 24) (.tmp 25) rfl HB2.out c rfl rfl rfl (by omega) ?_; intro ad' had' hB3
             have HA := Lib.hid had'
             have HB3 := Lib.hid hB3
             clear had' hB3)
          | (go_at_call 34; refine (press256_closure x y s _ z _ hM2).mono ?_; rintro e w3 ⟨rfl, hM3, ht3⟩))
        go_roundw
        case rel =>
          have hdd : l.drop (j + c) = (l.drop j).drop c := by rw [List.drop_drop]
          have htt : m ++ l.take (j + c) = (m ++ l.take j) ++ (l.drop j).take c := by rw [List.append_assoc, List.take_add]
          have hmod : (m ++ l.take j).length % k256.block = k := by rw [HQ.out]; exact HK.out.symm
          refine ⟨j + c, ad', cap - c, _, _, q + c, by omega, ?_, by have := hq.out; show _ = _; omega, by go_num, by rw [Nat.sub_sub], ?_, ?_, ?_, hM3, ?_, (ht.trans (Tch.right hg2)).trans ht3⟩
          · show _ = _
            rw [htt, List.length_append, HQ.out, List.length_take, List.length_drop, HL.out]
            omega
          · rw [hdd, ← Nat.sub_sub]
            refine HB3.out.touched ht3 ?_ ?_
            · rw [HA.out]; exact hax.drop (by omega)
            · rw [HA.out]; exact hay.drop (by omega)
          · rw [HA.out]; exact hax.drop (by omega)
          · rw [HA.out]; exact hay.drop (by omega)
          · have hf := hD.full (l.drop j) c (by rw [List.length_drop, HL.out]; exact hc1) (by rw [hmod]; exact hfull) (by decide)
            rw [hmod] at hf
            rw [htt]
            exact hf
        case measure => have := hq.out; simp [intOf]; omega
      · have hzn : ((q : Int) + (c : Int)) % 64 = ((k + c : Nat) : Int) := by have := HK.out; omega
        have hz0 : ¬ ((k + c : Nat) : Int) = 0 := by omega
        go_wp2_with (first
          | refine wpList_op rfl (.slice 22 (.tmp 17) (some (.tmp 20)) none none) 22 (.slice (some ⟨y, 8 + k, none⟩) (64 - k) (64 - k)) rfl rfl (exec_sliceAt _ _ _ _ _ _ k Try.underlying22 (by kernel_rfl) rfl rfl rfl (by omega) (by omega) rfl rfl rfl) ?_
          | (refine wpList_copy_bytes rfl (.tmp 21) (.tmp 22) rfl hM.row HB.out rfl rfl (by omega) c (by rw [List.length_drop, HL.out]; exact HC.out) ?_; intro w2 hr2 hg2 hs2
             have hM2 := hM.copied (k := k) (by omega) (by omega) hr2 hg2
             have HB2 := Lib.hid (HB.out.touched (Tch.right hg2) hax hay)
             clear HB)
          | (refine wpList_bsFrom rfl (.tmp 24) (.tmp 25) rfl HB2.out c rfl rfl rfl (by omega) ?_; intro ad' had' hB3
             have HA := Lib.hid had'
             have HB3 := Lib.hid hB3
             clear had' hB3))
        go_roundw
        case rel =>
          have hdd : l.drop (j + c) = (l.drop j).drop c := by rw [List.drop_drop]
          have htt : m ++ l.take (j + c) = (m ++ l.take j) ++ (l.drop j).take c := by rw [List.append_assoc, List.take_add]
          have hmod : (m ++ l.take j).length % k256.block = k := by rw [HQ.out]; exact HK.out.symm
          refine ⟨j + c, ad', cap - c, _, _, q + c, by omega, ?_, by have := hq.out; show _ = _; omega, by go_num, by rw [Nat.sub_sub], ?_, ?_, ?_, hM2, ?_, ht.trans (Tch.right hg2)⟩
          · show _ = _
            rw [htt, List.length_append, HQ.out, List.length_take, List.length_drop, HL.out]
            omega
          · rw [hdd, ← Nat.sub_sub]
            exact HB3.out
          · rw [HA.out]; exact hax.drop (by omega)
          · rw [HA.out]; exact hay.drop (by omega)
          · have hf := hD.short (l.drop j) c (by rw [List.length_drop, HL.out]; exact hc1) (by rw [hmod]; show k + c < 64; omega)
            rw [hmod] at hf
            rw [htt]
            exact hf
        case measure => have := hq.out; simp [intOf]; omega
    · obtain rfl : j = n0 := by omega
      go_wp2
      go_ret
      refine ⟨?_, s, blk, hM, ?_, ht⟩
      · have e1 := hq.out
        have e2 := HL.out
        subst e2
        rw [e1]
        rfl
      · rw [← HL.out, List.take_length] at hD
        exact hD

end Go.Proofs.Ytladojcbbhphfaa
