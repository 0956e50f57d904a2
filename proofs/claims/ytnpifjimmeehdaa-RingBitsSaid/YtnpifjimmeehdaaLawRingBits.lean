/- RingBits, walked. -/
import Derived.Test.YtnpifjimmeehdaaMM3
namespace Go.Proofs.Ytnpifjimmeehdaa
open Go.RowKit Go.Deep
set_option linter.unusedSimpArgs false
set_option linter.unusedVariables false

theorem bits_exp (b : Nat) (h : b < 2) : (b % 2 ^ 1 * 3329 + 2 ^ (1 - 1)) / 2 ^ 1 = 1665 * b := by
  rcases (show b = 0 ∨ b = 1 by omega) with rfl | rfl <;> decide
theorem bits_com (b : Nat) (h : b < 2) : (1665 * b % 3329 * 2 ^ 1 + 1664) / 3329 % 2 ^ 1 = b := by
  rcases (show b = 0 ∨ b = 1 by omega) with rfl | rfl <;> decide
theorem bits_enc (l : List UInt8) (h : l.length = 32) : encL (decV (numL l 32) 1) 1 = l := by
  have e : vvN (decV (numL l 32) 1) 1 = fun i => numL l 32 / 2 ^ (1 * i) % 2 ^ 1 := funext fun i => by
    rw [vvN, if_neg (by decide), decV, Nat.mod_mod]
  unfold encL
  rw [e, pk_of, show 2 ^ (1 * 256) = 256 ^ 32 by decide, Nat.mod_eq_of_lt (numL_lt l 32)]
  exact litB_numL l 32 h
set_option maxHeartbeats 8000000 in
set_option maxRecDepth 100000 in
theorem law_ringBits (w : World) (v0 : Value) (l0 : List UInt8) (h0 : Bs w v0 l0) : Calls Try.prog 8 #[v0] w fun e w' => e = .returned (.bool true) ∧ Below w.heap.size w w' := by
  obtain ⟨ad0, n0, c0, rfl, e0, y0, z0, hB0⟩ := h0.shape
  by_cases d0 : n0 = 32
  · have q0 : (n0 : Int) = 32 := by omega
    have Bw0 := Below.refl w.heap.size w
    have HGS : Hid (∀ wq : World, Below w.heap.size w wq → w.heap.size ≤ wq.heap.size) := Lib.hid fun wq h => h.size
    have f_s0 := hB0
    have HF_s0 := Lib.hid hB0
    obtain ⟨gb, ob, cb, he, hb1, hb2, hb3, hb4⟩ := hB0.open_n e0 (by omega)
    injection he with he1 he2 he3
    subst he1
    have hl32 : l0.length = 32 := by omega
    have HL32 := Lib.hid hl32
    have HB := Lib.hid fun W (hW : Below w.heap.size w W) i (hi : i < l0.length) => bs_cell (hB0.below hW (Nat.le_refl _)) i hi
    obtain ⟨X, hX⟩ := nat_var (numL l0 32)
    have HBT : Hid (∀ k, k < 256 → bitL l0 k = X / 2 ^ k % 2) := Lib.hid fun k hk => by rw [hX]; exact bitL_num l0 32 k (by omega)
    obtain ⟨f, hf⟩ : ∃ f, f = decV X 1 := ⟨_, rfl⟩
    have hf2 : ∀ k, f k < 2 := fun k => by rw [hf]; exact decV_lt X 1 k
    have HF2 := Lib.hid hf2
    have HFV : Hid (∀ k, f k = X / 2 ^ k % 2) := Lib.hid fun k => by rw [hf, decV, Nat.one_mul]
    have hfe : encL f 1 = l0 := by rw [hf, hX]; exact bits_enc l0 hl32
    obtain ⟨g, hg⟩ : ∃ g : Nat → Nat, g = fun k => 1665 * f k := ⟨_, rfl⟩
    have HGV : Hid (∀ k, g k = 1665 * f k) := Lib.hid fun k => by rw [hg]
    have HD0 := Lib.hid fun W v (h : Bs W v l0) => rDecode_ok 1 v l0 W h hl32 (by decide) (by decide)
    rw [show 32 * 1 = 32 from rfl, ← hX, may_small X 1 (by decide), if_pos rfl, if_pos rfl, ← hf] at HD0
    have HD1 : Hid (∀ W v, Bs W v l0 → Calls Try.prog 30 #[.int .i64 1, v] W fun e w' => e = .returned (.tuple #[.agg (arrOf 256 (pyF f)), .int .i64 0]) ∧ Below W.heap.size W w') := Lib.hid fun W v h => HD0.out W v h
    have HX1 : Hid (∀ W, Calls Try.prog 26 #[.agg (arrOf 256 (pyF f)), .int .i64 1] W fun e w' => e = .returned (.tuple #[.agg (arrOf 256 (pyF g)), .int .i64 0]) ∧ Below W.heap.size W w') := Lib.hid fun W => by
      have h := rExpand_ok f 1 W (fun k => Nat.lt_trans (hf2 k) (by decide)) (by decide) (by decide)
      rw [show (fun k => (f k % 2 ^ 1 * 3329 + 2 ^ (1 - 1)) / 2 ^ 1) = g from funext fun k => by rw [hg]; exact bits_exp _ (hf2 k)] at h
      exact h
    have HC1 : Hid (∀ W, Calls Try.prog 24 #[.agg (arrOf 256 (pyF g)), .int .i64 1] W fun e w' => e = .returned (.tuple #[.agg (arrOf 256 (pyF f)), .int .i64 0]) ∧ Below W.heap.size W w') := Lib.hid fun W => by
      have h := rCompress_ok g 1 W (fun k => by rw [hg]; show 1665 * f k < 65536; have := hf2 k; omega) (by decide) (by decide)
      rw [show (fun k => (g k % 3329 * 2 ^ 1 + 1664) / 3329 % 2 ^ 1) = f from funext fun k => by rw [hg]; exact bits_com _ (hf2 k)] at h
      exact h
    have HE1 : Hid (∀ W, Calls Try.prog 28 #[.agg (arrOf 256 (pyF f)), .int .i64 1] W fun e w' => ∃ v, e = .returned (.tuple #[v, .int .i64 0]) ∧ Owns w' W.heap.size v l0 ∧ Below W.heap.size W w') := Lib.hid fun W => by
      have h := rEncodeD f 1 W (fun k => Nat.lt_trans (hf2 k) (by decide)) (by decide)
      rw [hfe] at h
      exact h
    clear HD0 hf hg hfe hf2 hX hl32 hb1 hb2 hb3 hb4 he2 he3
    clear h0 hB0 e0 d0
    go_enter Try.func8, Try.ntmps8
    go_wp2_with (first
      | (have hgo := Bw0; clear hgo
         go_at_call 30
         refine (HD1.out _ _ f_s0).mono ?_
         rintro e w2 ⟨rfl, kk⟩
         replace f_s0 := zfb f_s0 kk
         have Bw1 := zbt HGS Bw0 kk
         clear Bw0 kk)
      | (have hgo := Bw1; clear hgo
         refine wpList_alloc_row rfl 26 rfl 256 (pyF fun _ => 0) zeroP ?_
         intro b_t3 w6 lk r_t3 kk
         have l_t3 := zrl HGS Bw1 lk
         have a_s0_t3 := Bs.away f_s0 lk
         replace f_s0 := zfb f_s0 kk
         have Bw2 := zbt HGS Bw1 kk
         clear Bw1 kk lk)
      | (have hgo := Bw2; clear hgo
         refine wpList_store_as rfl 26 (.tmp 3) (.tmp 20) rfl 256 (pyF f) arrP r_t3 rfl rfl (by omega) (fun _ _ => rfl) (fun i hi => putN_whole hi) ?_
         intro w7 q gk
         replace r_t3 := q
         have Bw3 := zbg HGS Bw2 gk l_t3
         replace f_s0 := gb_bs f_s0 gk a_s0_t3
         clear Bw2 gk q)
      | (have hgo := Bw3; clear hgo
         refine wpList_load_as rfl 26 (.tmp 3) rfl 256 (pyF f) arrP r_t3 rfl (by omega) (fun i hi => by rw [Nat.zero_add]) ?_
         have Bw4 := Bw3
         clear Bw3)
      | (have hgo := Bw4; clear hgo
         go_at_call 26
         refine (HX1.out _).mono ?_
         rintro e w10 ⟨rfl, kk⟩
         replace r_t3 := zrb r_t3 kk
         replace f_s0 := zfb f_s0 kk
         have Bw5 := zbt HGS Bw4 kk
         clear Bw4 kk)
      | (have hgo := Bw5; clear hgo
         refine wpList_alloc_row rfl 26 rfl 256 (pyF fun _ => 0) zeroP ?_
         intro b_t5 w14 lk r_t5 kk
         have n_t3_t5 := zrn r_t3 lk
         have l_t5 := zrl HGS Bw5 lk
         have a_s0_t5 := Bs.away f_s0 lk
         replace r_t3 := zrb r_t3 kk
         replace f_s0 := zfb f_s0 kk
         have Bw6 := zbt HGS Bw5 kk
         clear Bw5 kk lk)
      | (have hgo := Bw6; clear hgo
         refine wpList_store_as rfl 26 (.tmp 5) (.tmp 25) rfl 256 (pyF g) arrP r_t5 rfl rfl (by omega) (fun _ _ => rfl) (fun i hi => putN_whole hi) ?_
         intro w15 q gk
         replace r_t3 := gb_rowIs r_t3 gk n_t3_t5
         replace r_t5 := q
         have Bw7 := zbg HGS Bw6 gk l_t5
         replace f_s0 := gb_bs f_s0 gk a_s0_t5
         clear Bw6 gk q)
      | (have hgo := Bw7; clear hgo
         refine wpList_load_as rfl 26 (.tmp 5) rfl 256 (pyF g) arrP r_t5 rfl (by omega) (fun i hi => by rw [Nat.zero_add]) ?_
         have Bw8 := Bw7
         clear Bw7)
      | (have hgo := Bw8; clear hgo
         go_at_call 24
         refine (HC1.out _).mono ?_
         rintro e w18 ⟨rfl, kk⟩
         replace r_t3 := zrb r_t3 kk
         replace r_t5 := zrb r_t5 kk
         replace f_s0 := zfb f_s0 kk
         have Bw9 := zbt HGS Bw8 kk
         clear Bw8 kk)
      | (have hgo := Bw9; clear hgo
         refine wpList_alloc_row rfl 26 rfl 256 (pyF fun _ => 0) zeroP ?_
         intro b_t7 w22 lk r_t7 kk
         have n_t3_t7 := zrn r_t3 lk
         have n_t5_t7 := zrn r_t5 lk
         have l_t7 := zrl HGS Bw9 lk
         have a_s0_t7 := Bs.away f_s0 lk
         replace r_t3 := zrb r_t3 kk
         replace r_t5 := zrb r_t5 kk
         replace f_s0 := zfb f_s0 kk
         have Bw10 := zbt HGS Bw9 kk
         clear Bw9 kk lk)
      | (have hgo := Bw10; clear hgo
         refine wpList_store_as rfl 26 (.tmp 7) (.tmp 30) rfl 256 (pyF f) arrP r_t7 rfl rfl (by omega) (fun _ _ => rfl) (fun i hi => putN_whole hi) ?_
         intro w23 q gk
         replace r_t3 := gb_rowIs r_t3 gk n_t3_t7
         replace r_t5 := gb_rowIs r_t5 gk n_t5_t7
         replace r_t7 := q
         have Bw11 := zbg HGS Bw10 gk l_t7
         replace f_s0 := gb_bs f_s0 gk a_s0_t7
         clear Bw10 gk q)
      | (have hgo := Bw11; clear hgo
         refine wpList_load_as rfl 26 (.tmp 7) rfl 256 (pyF f) arrP r_t7 rfl (by omega) (fun i hi => by rw [Nat.zero_add]) ?_
         have Bw12 := Bw11
         clear Bw11)
      | (have hgo := Bw12; clear hgo
         go_at_call 28
         refine (HE1.out _).mono ?_
         rintro e w26 ⟨v_s34, rfl, o_s34, kk⟩
         replace r_t3 := zrb r_t3 kk
         replace r_t5 := zrb r_t5 kk
         replace r_t7 := zrb r_t7 kk
         replace f_s0 := zfb f_s0 kk
         have Bw13 := zbt HGS Bw12 kk
         clear Bw12 kk
         have f_s34 := o_s34.bs
         clear o_s34)
      | (have hgo := Bw13; clear hgo
         refine wpList_value_given rfl (.string ⟨(l0).toArray⟩) (by rw [exec_mkOp]; exact exec_str _ _ _ rfl f_s34) ?_
         have Bw14 := Bw13
         clear Bw13)
      | (have hgo := Bw14; clear hgo
         refine wpList_value_given rfl (.string ⟨(l0).toArray⟩) (by rw [exec_mkOp]; exact exec_str _ _ _ rfl f_s0) ?_
         have Bw15 := Bw14
         clear Bw14))
    go_loopw [11] (fun kv wr => ∃ k : Nat, k ≤ 256 ∧ kv = .int .i64 (k : Int) ∧ wr.rowIs b_t3 26 256 (pyF f) ∧ wr.rowIs b_t5 26 256 (pyF g) ∧ Below w.heap.size w wr) (fun kv _ => 256 - (intOf kv).toNat)
    case atStart => exact ⟨0, by omega, rfl, r_t3, r_t5, Bw15⟩
    case round =>
      clear r_t3 r_t5 r_t7 f_s0 f_s34 Bw15
      obtain ⟨k, hk, rfl, r_t3, r_t5, Bw⟩ := hrel
      by_cases hlt : k < 256
      · have hkI : 0 ≤ (k : Int) ∧ (k : Int) < 256 := by omega
        obtain ⟨q, hq⟩ := nat_var (k / 8)
        obtain ⟨r, hr⟩ := nat_var (k % 8)
        have hql : q < l0.length := by rw [HL32.out]; omega
        have hc1 := HB.out _ Bw q hql
        rw [← getD_at l0 q hql] at hc1
        obtain ⟨x, hx⟩ := nat_var (l0.getD q 0).toNat
        have hxl : x < 256 := by rw [hx]; exact UInt8.toNat_lt _
        rw [← hx] at hc1
        obtain ⟨d, hd⟩ := nat_var (x / 2 ^ r)
        have hdl : d < 256 := by rw [hd]; exact Nat.lt_of_le_of_lt (Nat.div_le_self _ _) hxl
        obtain ⟨z, hz⟩ := nat_var (d % 2)
        have hfz : f k = z := by rw [HFV.out, ← HBT.out k hlt, hz, hd, hx, hr, hq]; rfl
        obtain ⟨y, hy⟩ := nat_var (1665 * z)
        have hgy : g k = y := by rw [HGV.out, hfz, hy]
        have d0 := pyF_cell r_t3 k hlt hfz
        have d1 := pyF_cell r_t5 k hlt hgy
        have hyw : IntKind.u16.wrap (1665 * (z : Int)) = (y : Int) := by rw [show 1665 * (z : Int) = (y : Int) by omega, u16_in _ (by omega)]
        have hzw : IntKind.u16.wrap (z : Int) = (z : Int) := u16_in _ (by omega)
        have HD := Lib.hid hd
        have HZ := Lib.hid hz
        have HX := Lib.hid hxl
        have HDL := Lib.hid hdl
        have HR8 : Hid (r < 8) := Lib.hid (by omega)
        have hqI : 0 ≤ (q : Int) ∧ (q : Int) < (n0 : Int) := by omega
        have hqI2 : 0 ≤ (q : Int) ∧ (q : Int) < 32 := by omega
        have hquo : IntKind.i64.wrap ((k : Int).tdiv 8) = (q : Int) := by rw [Int.tdiv_eq_ediv_of_nonneg (by omega), IntWalk.i64_in _ (by omega)]; omega
        have hquo2 : IntKind.i64.wrap ((k : Int) / 8) = (q : Int) := by rw [IntWalk.i64_in _ (by omega)]; omega
        have hrem : IntKind.i64.wrap ((k : Int).tmod 8) = (r : Int) := by rw [Int.tmod_eq_emod_of_nonneg (by omega), IntWalk.i64_in _ (by omega)]; omega
        have hrem2 : (k : Int).tmod 8 = (r : Int) := by rw [Int.tmod_eq_emod_of_nonneg (by omega)]; omega
        have HKL : Hid (k + 1 ≤ 256) := Lib.hid hlt
        clear hq hr hx hxl hd hdl hz hfz hgy hy hql hlt
        go_wp2_with (first
          | refine wpList_shr8 rfl (.tmp 66) (.tmp 68) rfl rfl rfl HD.out HR8.out HX.out ?_
          | refine wpList_and1 rfl (.tmp 69) (.const (.int .u8 1)) rfl rfl rfl HZ.out HDL.out ?_)
        go_roundw
        case rel => exact ⟨k + 1, HKL.out, by go_num, r_t3, r_t5, Bw⟩
        case measure => (have := HKL.out; simp [intOf]; try omega)
      · obtain rfl : k = 256 := by omega
        go_wp2_with (first | (go_at_call 9; refine (awake10_any _).mono ?_; rintro e w9 ⟨rfl, kk⟩))
        go_ret
        exact ⟨rfl, zbt HGS Bw kk⟩
  · have q0 : ¬ (n0 : Int) = 32 := by omega
    clear h0 hB0 e0 d0
    go_enter Try.func8, Try.ntmps8
    go_wp2_with (first | (go_at_call 9; refine (awake10_any _).mono ?_; rintro e w9 ⟨rfl, hb9⟩))
    go_ret
    exact ⟨rfl, hb9⟩
end Go.Proofs.Ytnpifjimmeehdaa
