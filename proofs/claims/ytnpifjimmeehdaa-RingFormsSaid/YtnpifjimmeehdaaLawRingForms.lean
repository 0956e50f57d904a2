/- RingForms, walked. -/
import Derived.Test.YtnpifjimmeehdaaMM3
namespace Go.Proofs.Ytnpifjimmeehdaa
open Go.RowKit Go.Deep
set_option linter.unusedSimpArgs false
set_option linter.unusedVariables false

theorem com_lt (x D : Nat) (h : D ≤ 11) : x % 2 ^ D < 65536 := Nat.lt_of_lt_of_le (Nat.mod_lt _ (Nat.pow_pos (by decide))) (Nat.le_trans (Nat.pow_le_pow_right (by decide) h) (by decide))
theorem exp_lt (x D : Nat) (h1 : 1 ≤ D) (h : D ≤ 11) : (x % 2 ^ D * 3329 + 2 ^ (D - 1)) / 2 ^ D < 65536 := by
  have h2 : x % 2 ^ D < 2 ^ D := Nat.mod_lt _ (Nat.pow_pos (by decide))
  have h3 : 2 ^ D = 2 * 2 ^ (D - 1) := by rw [Nat.mul_comm, ← Nat.pow_succ, Nat.succ_eq_add_one, Nat.sub_add_cancel h1]
  exact Nat.div_lt_of_lt_mul (by omega)
theorem compress_both (f : Nat → Nat) (d : Int) (hf : ∀ i, f i < 65536) : ∃ C : Nat → Nat, ∃ k : Int, (∀ i, C i < 65536) ∧ (∀ W, Calls Try.prog 24 #[.agg (arrOf 256 (pyF f)), .int .i64 d] W fun e w' => e = .returned (.tuple #[.agg (arrOf 256 (pyF C)), .int .i64 k]) ∧ Below W.heap.size W w') ∧ ∀ W, Calls Try.prog 25 #[.agg (arrOf 256 (pyF f)), .int .i64 d] W fun e w' => e = .returned (.tuple #[.agg (arrOf 256 (pyF C)), .int .i64 k]) ∧ Below W.heap.size W w' := by
  rcases Int.lt_or_le d 1 with h | h
  · exact ⟨_, _, fun _ => (by decide : 0 < 65536), fun W => rCompress_small f d W h, fun W => refCompress_small f d W h⟩
  · rcases Int.lt_or_le 11 d with h2 | h2
    · exact ⟨_, _, fun _ => (by decide : 0 < 65536), fun W => rCompress_great f d W h2, fun W => refCompress_great f d W h2⟩
    · obtain ⟨D, rfl⟩ : ∃ D : Nat, d = (D : Int) := ⟨d.toNat, by omega⟩
      exact ⟨_, _, fun i => com_lt _ D (by omega), fun W => rCompress_ok f D W hf (by omega) (by omega), fun W => refCompress_ok f D W hf (by omega) (by omega)⟩
theorem expand_both (f : Nat → Nat) (d : Int) (hf : ∀ i, f i < 65536) : ∃ C : Nat → Nat, ∃ k : Int, (∀ i, C i < 65536) ∧ (∀ W, Calls Try.prog 26 #[.agg (arrOf 256 (pyF f)), .int .i64 d] W fun e w' => e = .returned (.tuple #[.agg (arrOf 256 (pyF C)), .int .i64 k]) ∧ Below W.heap.size W w') ∧ ∀ W, Calls Try.prog 27 #[.agg (arrOf 256 (pyF f)), .int .i64 d] W fun e w' => e = .returned (.tuple #[.agg (arrOf 256 (pyF C)), .int .i64 k]) ∧ Below W.heap.size W w' := by
  rcases Int.lt_or_le d 1 with h | h
  · exact ⟨_, _, fun _ => (by decide : 0 < 65536), fun W => rExpand_small f d W h, fun W => refExpand_small f d W h⟩
  · rcases Int.lt_or_le 11 d with h2 | h2
    · exact ⟨_, _, fun _ => (by decide : 0 < 65536), fun W => rExpand_great f d W h2, fun W => refExpand_great f d W h2⟩
    · obtain ⟨D, rfl⟩ : ∃ D : Nat, d = (D : Int) := ⟨d.toNat, by omega⟩
      exact ⟨_, _, fun i => exp_lt _ D (by omega) (by omega), fun W => rExpand_ok f D W hf (by omega) (by omega), fun W => refExpand_ok f D W hf (by omega) (by omega)⟩
theorem encode_both (f : Nat → Nat) (d : Int) (hf : ∀ i, f i < 65536) : ∃ l : List UInt8, ∃ k : Int, (∀ W, Calls Try.prog 28 #[.agg (arrOf 256 (pyF f)), .int .i64 d] W fun e w' => ∃ v, e = .returned (.tuple #[v, .int .i64 k]) ∧ Owns w' W.heap.size v l ∧ Below W.heap.size W w') ∧ ∀ W, Calls Try.prog 29 #[.agg (arrOf 256 (pyF f)), .int .i64 d] W fun e w' => ∃ v, e = .returned (.tuple #[v, .int .i64 k]) ∧ Owns w' W.heap.size v l ∧ Below W.heap.size W w' := by
  rcases Int.lt_or_le d 1 with h | h
  · exact ⟨[], 1, fun W => (rEncode_small f d W h).mono fun e w' h => ⟨_, h.1, Owns.nil _ _, h.2⟩, fun W => (refEncode_small f d W h).mono fun e w' h => ⟨_, h.1, Owns.nil _ _, h.2⟩⟩
  · rcases Int.lt_or_le 12 d with h2 | h2
    · exact ⟨[], 1, fun W => (rEncode_great f d W h2).mono fun e w' h => ⟨_, h.1, Owns.nil _ _, h.2⟩, fun W => (refEncode_great f d W h2).mono fun e w' h => ⟨_, h.1, Owns.nil _ _, h.2⟩⟩
    · obtain ⟨D, rfl⟩ : ∃ D : Nat, d = (D : Int) := ⟨d.toNat, by omega⟩
      by_cases h12 : D = 12
      · subst h12
        exact ⟨_, _, fun W => rEncode12 f 12 W hf rfl, fun W => refEncode12 f W hf⟩
      · exact ⟨_, _, fun W => rEncodeD f D W hf ⟨by omega, by omega⟩, fun W => refEncodeD f D W hf (by omega) (by omega)⟩
theorem decode_both (d : Int) (l : List UInt8) : ∃ C : Nat → Nat, ∃ k : Int, (∀ W v, Bs W v l → Calls Try.prog 30 #[.int .i64 d, v] W fun e w' => e = .returned (.tuple #[.agg (arrOf 256 (pyF C)), .int .i64 k]) ∧ Below W.heap.size W w') ∧ ∀ W v, Bs W v l → Calls Try.prog 31 #[.int .i64 d, v] W fun e w' => e = .returned (.tuple #[.agg (arrOf 256 (pyF C)), .int .i64 k]) ∧ Below W.heap.size W w' := by
  rcases Int.lt_or_le d 1 with h | h
  · exact ⟨_, _, fun W v hv => rDecode_small d v l W hv h, fun W v hv => refDecode_small d v l W hv h⟩
  · rcases Int.lt_or_le 12 d with h2 | h2
    · exact ⟨_, _, fun W v hv => rDecode_great d v l W hv h2, fun W v hv => refDecode_great d v l W hv h2⟩
    · by_cases hl : (l.length : Int) = 32 * d
      · obtain ⟨D, rfl⟩ : ∃ D : Nat, d = (D : Int) := ⟨d.toNat, by omega⟩
        have hl2 : l.length = 32 * D := by omega
        by_cases h12 : D = 12
        · subst h12
          exact ⟨_, _, fun W v hv => rDecode_ok 12 v l W hv hl2 (by decide) (by decide), fun W v hv => refDecode12 v l W hv hl2⟩
        · have hm := may_small (numL l (32 * D)) D (by omega)
          refine ⟨_, _, fun W v hv => rDecode_ok D v l W hv hl2 (by omega) (by omega), fun W v hv => ?_⟩
          rw [if_pos hm, if_pos hm]
          exact refDecodeD D v l W hv hl2 (by omega) (by omega)
      · exact ⟨_, _, fun W v hv => rDecode_length d v l W hv h h2 hl, fun W v hv => refDecode_length d v l W hv h h2 hl⟩
set_option maxHeartbeats 8000000 in
set_option maxRecDepth 100000 in
theorem law_ringForms (w : World) (v0 : Value) (l0 : List Int) (h0 : NumsK .u16 w v0 l0) (x1 : Int) (w1 : (Lit.int .i64 x1).wf = true) (v2 : Value) (l2 : List UInt8) (h2 : Bs w v2 l2) : Calls Try.prog 4 #[v0, .int .i64 x1, v2] w fun e w' => e = .returned (.bool true) ∧ Below w.heap.size w w' := by
  obtain ⟨ad0, n0, c0, rfl, e0, y0, z0, hB0⟩ := h0.shape
  obtain ⟨ad2, n2, c2, rfl, e2, y2, z2, hB2⟩ := h2.shape
  by_cases d0 : n0 ≤ 256
  · have q0 : ¬ (256 : Int) < (n0 : Int) := by omega
    by_cases d1 : n2 ≤ 500
    · have q1 : ¬ (500 : Int) < (n2 : Int) := by omega
      have Bw0 := Below.refl w.heap.size w
      have HGS : Hid (∀ wq : World, Below w.heap.size w wq → w.heap.size ≤ wq.heap.size) := Lib.hid fun wq h => h.size
      have f_s2 := hB2
      have HF_s2 := Lib.hid hB2
      obtain ⟨f, hf⟩ : ∃ f, f = polN l0 := ⟨_, rfl⟩
      have Hf : Hid (∀ i, f i < 65536) := Lib.hid (by rw [hf]; exact polN_lt (NumsK.wf hB0))
      have HP0 := Lib.hid fun W (hW : Below w.heap.size w W) => poly_any _ l0 W (NumsK.below hB0 hW (Nat.le_refl _)) (by omega)
      rw [← hf] at HP0
      clear hf
      obtain ⟨C, ec, _, hc1, hc2⟩ := compress_both f x1 Hf.out
      obtain ⟨E, ee, _, hx1, hx2⟩ := expand_both f x1 Hf.out
      obtain ⟨le, en, he1, he2⟩ := encode_both f x1 Hf.out
      obtain ⟨R, er, hd1, hd2⟩ := decode_both x1 l2
      have HC1 := Lib.hid hc1
      have HC2 := Lib.hid hc2
      have HX1 := Lib.hid hx1
      have HX2 := Lib.hid hx2
      have HE1 := Lib.hid he1
      have HE2 := Lib.hid he2
      have HD1 := Lib.hid hd1
      have HD2 := Lib.hid hd2
      clear hc1 hc2 hx1 hx2 he1 he2 hd1 hd2 w1
      clear h0 hB0 e0 h2 hB2 e2 d0 d1
      go_enter Try.func4, Try.ntmps4
      go_wp2_with (first
        | (have hgo := Bw0; clear hgo
           go_at_call 10
           refine (HP0.out _ Bw0).mono ?_
           rintro e w2 ⟨rfl, kk⟩
           replace f_s2 := zfb f_s2 kk
           have Bw1 := zbt HGS Bw0 kk
           clear Bw0 kk)
        | (have hgo := Bw1; clear hgo
           refine wpList_alloc_row rfl 26 rfl 256 (pyF fun _ => 0) zeroP ?_
           intro b_t7 w6 lk r_t7 kk
           have l_t7 := zrl HGS Bw1 lk
           have a_s2_t7 := Bs.away f_s2 lk
           replace f_s2 := zfb f_s2 kk
           have Bw2 := zbt HGS Bw1 kk
           clear Bw1 kk lk)
        | (have hgo := Bw2; clear hgo
           refine wpList_alloc_row rfl 27 rfl 256 (pyF fun _ => 0) zeroPy ?_
           intro b_t8 w7 lk r_t8 kk
           have n_t7_t8 := zrn r_t7 lk
           have l_t8 := zrl HGS Bw2 lk
           have a_s2_t8 := Bs.away f_s2 lk
           replace r_t7 := zrb r_t7 kk
           replace f_s2 := zfb f_s2 kk
           have Bw3 := zbt HGS Bw2 kk
           clear Bw2 kk lk)
        | (have hgo := Bw3; clear hgo
           refine wpList_store_as rfl 26 (.tmp 7) (.tmp 37) rfl 256 (pyF f) arrP r_t7 rfl rfl (by omega) (fun _ _ => rfl) (fun i hi => putN_whole hi) ?_
           intro w8 q gk
           replace r_t8 := gb_rowIs r_t8 gk (Ne.symm n_t7_t8)
           replace r_t7 := q
           have Bw4 := zbg HGS Bw3 gk l_t7
           replace f_s2 := gb_bs f_s2 gk a_s2_t7
           clear Bw3 gk q)
        | (have hgo := Bw4; clear hgo
           refine wpList_store_as rfl 27 (.tmp 8) (.tmp 38) rfl 256 (pyF f) arrPy r_t8 rfl rfl (by omega) (fun _ _ => rfl) (fun i hi => putN_whole hi) ?_
           intro w9 q gk
           replace r_t7 := gb_rowIs r_t7 gk n_t7_t8
           replace r_t8 := q
           have Bw5 := zbg HGS Bw4 gk l_t8
           replace f_s2 := gb_bs f_s2 gk a_s2_t8
           clear Bw4 gk q)
        | (have hgo := Bw5; clear hgo
           refine wpList_load_as rfl 26 (.tmp 7) rfl 256 (pyF f) arrP r_t7 rfl (by omega) (fun i hi => by rw [Nat.zero_add]) ?_
           have Bw6 := Bw5
           clear Bw5)
        | (have hgo := Bw6; clear hgo
           go_at_call 24
           refine (HC1.out _).mono ?_
           rintro e w12 ⟨rfl, kk⟩
           replace r_t7 := zrb r_t7 kk
           replace r_t8 := zrb r_t8 kk
           replace f_s2 := zfb f_s2 kk
           have Bw7 := zbt HGS Bw6 kk
           clear Bw6 kk)
        | (have hgo := Bw7; clear hgo
           refine wpList_alloc_row rfl 26 rfl 256 (pyF fun _ => 0) zeroP ?_
           intro b_t9 w16 lk r_t9 kk
           have n_t7_t9 := zrn r_t7 lk
           have n_t8_t9 := zrn r_t8 lk
           have l_t9 := zrl HGS Bw7 lk
           have a_s2_t9 := Bs.away f_s2 lk
           replace r_t7 := zrb r_t7 kk
           replace r_t8 := zrb r_t8 kk
           replace f_s2 := zfb f_s2 kk
           have Bw8 := zbt HGS Bw7 kk
           clear Bw7 kk lk)
        | (have hgo := Bw8; clear hgo
           refine wpList_store_as rfl 26 (.tmp 9) (.tmp 43) rfl 256 (pyF C) arrP r_t9 rfl rfl (by omega) (fun _ _ => rfl) (fun i hi => putN_whole hi) ?_
           intro w17 q gk
           replace r_t7 := gb_rowIs r_t7 gk n_t7_t9
           replace r_t8 := gb_rowIs r_t8 gk n_t8_t9
           replace r_t9 := q
           have Bw9 := zbg HGS Bw8 gk l_t9
           replace f_s2 := gb_bs f_s2 gk a_s2_t9
           clear Bw8 gk q)
        | (have hgo := Bw9; clear hgo
           refine wpList_load_as rfl 27 (.tmp 8) rfl 256 (pyF f) arrPy r_t8 rfl (by omega) (fun i hi => by rw [Nat.zero_add]) ?_
           have Bw10 := Bw9
           clear Bw9)
        | (have hgo := Bw10; clear hgo
           go_at_call 25
           refine (HC2.out _).mono ?_
           rintro e w21 ⟨rfl, kk⟩
           replace r_t7 := zrb r_t7 kk
           replace r_t8 := zrb r_t8 kk
           replace r_t9 := zrb r_t9 kk
           replace f_s2 := zfb f_s2 kk
           have Bw11 := zbt HGS Bw10 kk
           clear Bw10 kk)
        | (have hgo := Bw11; clear hgo
           refine wpList_alloc_row rfl 27 rfl 256 (pyF fun _ => 0) zeroPy ?_
           intro b_t11 w25 lk r_t11 kk
           have n_t7_t11 := zrn r_t7 lk
           have n_t8_t11 := zrn r_t8 lk
           have n_t9_t11 := zrn r_t9 lk
           have l_t11 := zrl HGS Bw11 lk
           have a_s2_t11 := Bs.away f_s2 lk
           replace r_t7 := zrb r_t7 kk
           replace r_t8 := zrb r_t8 kk
           replace r_t9 := zrb r_t9 kk
           replace f_s2 := zfb f_s2 kk
           have Bw12 := zbt HGS Bw11 kk
           clear Bw11 kk lk)
        | (have hgo := Bw12; clear hgo
           refine wpList_store_as rfl 27 (.tmp 11) (.tmp 49) rfl 256 (pyF C) arrPy r_t11 rfl rfl (by omega) (fun _ _ => rfl) (fun i hi => putN_whole hi) ?_
           intro w26 q gk
           replace r_t7 := gb_rowIs r_t7 gk n_t7_t11
           replace r_t8 := gb_rowIs r_t8 gk n_t8_t11
           replace r_t9 := gb_rowIs r_t9 gk n_t9_t11
           replace r_t11 := q
           have Bw13 := zbg HGS Bw12 gk l_t11
           replace f_s2 := gb_bs f_s2 gk a_s2_t11
           clear Bw12 gk q)
        | (have hgo := Bw13; clear hgo
           refine wpList_load_as rfl 26 (.tmp 7) rfl 256 (pyF f) arrP r_t7 rfl (by omega) (fun i hi => by rw [Nat.zero_add]) ?_
           have Bw14 := Bw13
           clear Bw13)
        | (have hgo := Bw14; clear hgo
           go_at_call 26
           refine (HX1.out _).mono ?_
           rintro e w30 ⟨rfl, kk⟩
           replace r_t7 := zrb r_t7 kk
           replace r_t8 := zrb r_t8 kk
           replace r_t9 := zrb r_t9 kk
           replace r_t11 := zrb r_t11 kk
           replace f_s2 := zfb f_s2 kk
           have Bw15 := zbt HGS Bw14 kk
           clear Bw14 kk)
        | (have hgo := Bw15; clear hgo
           refine wpList_alloc_row rfl 26 rfl 256 (pyF fun _ => 0) zeroP ?_
           intro b_t13 w34 lk r_t13 kk
           have n_t7_t13 := zrn r_t7 lk
           have n_t8_t13 := zrn r_t8 lk
           have n_t9_t13 := zrn r_t9 lk
           have n_t11_t13 := zrn r_t11 lk
           have l_t13 := zrl HGS Bw15 lk
           have a_s2_t13 := Bs.away f_s2 lk
           replace r_t7 := zrb r_t7 kk
           replace r_t8 := zrb r_t8 kk
           replace r_t9 := zrb r_t9 kk
           replace r_t11 := zrb r_t11 kk
           replace f_s2 := zfb f_s2 kk
           have Bw16 := zbt HGS Bw15 kk
           clear Bw15 kk lk)
        | (have hgo := Bw16; clear hgo
           refine wpList_store_as rfl 26 (.tmp 13) (.tmp 55) rfl 256 (pyF E) arrP r_t13 rfl rfl (by omega) (fun _ _ => rfl) (fun i hi => putN_whole hi) ?_
           intro w35 q gk
           replace r_t7 := gb_rowIs r_t7 gk n_t7_t13
           replace r_t8 := gb_rowIs r_t8 gk n_t8_t13
           replace r_t9 := gb_rowIs r_t9 gk n_t9_t13
           replace r_t11 := gb_rowIs r_t11 gk n_t11_t13
           replace r_t13 := q
           have Bw17 := zbg HGS Bw16 gk l_t13
           replace f_s2 := gb_bs f_s2 gk a_s2_t13
           clear Bw16 gk q)
        | (have hgo := Bw17; clear hgo
           refine wpList_load_as rfl 27 (.tmp 8) rfl 256 (pyF f) arrPy r_t8 rfl (by omega) (fun i hi => by rw [Nat.zero_add]) ?_
           have Bw18 := Bw17
           clear Bw17)
        | (have hgo := Bw18; clear hgo
           go_at_call 27
           refine (HX2.out _).mono ?_
           rintro e w39 ⟨rfl, kk⟩
           replace r_t7 := zrb r_t7 kk
           replace r_t8 := zrb r_t8 kk
           replace r_t9 := zrb r_t9 kk
           replace r_t11 := zrb r_t11 kk
           replace r_t13 := zrb r_t13 kk
           replace f_s2 := zfb f_s2 kk
           have Bw19 := zbt HGS Bw18 kk
           clear Bw18 kk)
        | (have hgo := Bw19; clear hgo
           refine wpList_alloc_row rfl 27 rfl 256 (pyF fun _ => 0) zeroPy ?_
           intro b_t15 w43 lk r_t15 kk
           have n_t7_t15 := zrn r_t7 lk
           have n_t8_t15 := zrn r_t8 lk
           have n_t9_t15 := zrn r_t9 lk
           have n_t11_t15 := zrn r_t11 lk
           have n_t13_t15 := zrn r_t13 lk
           have l_t15 := zrl HGS Bw19 lk
           have a_s2_t15 := Bs.away f_s2 lk
           replace r_t7 := zrb r_t7 kk
           replace r_t8 := zrb r_t8 kk
           replace r_t9 := zrb r_t9 kk
           replace r_t11 := zrb r_t11 kk
           replace r_t13 := zrb r_t13 kk
           replace f_s2 := zfb f_s2 kk
           have Bw20 := zbt HGS Bw19 kk
           clear Bw19 kk lk)
        | (have hgo := Bw20; clear hgo
           refine wpList_store_as rfl 27 (.tmp 15) (.tmp 61) rfl 256 (pyF E) arrPy r_t15 rfl rfl (by omega) (fun _ _ => rfl) (fun i hi => putN_whole hi) ?_
           intro w44 q gk
           replace r_t7 := gb_rowIs r_t7 gk n_t7_t15
           replace r_t8 := gb_rowIs r_t8 gk n_t8_t15
           replace r_t9 := gb_rowIs r_t9 gk n_t9_t15
           replace r_t11 := gb_rowIs r_t11 gk n_t11_t15
           replace r_t13 := gb_rowIs r_t13 gk n_t13_t15
           replace r_t15 := q
           have Bw21 := zbg HGS Bw20 gk l_t15
           replace f_s2 := gb_bs f_s2 gk a_s2_t15
           clear Bw20 gk q)
        | (have hgo := Bw21; clear hgo
           refine wpList_load_as rfl 26 (.tmp 7) rfl 256 (pyF f) arrP r_t7 rfl (by omega) (fun i hi => by rw [Nat.zero_add]) ?_
           have Bw22 := Bw21
           clear Bw21)
        | (have hgo := Bw22; clear hgo
           go_at_call 28
           refine (HE1.out _).mono ?_
           rintro e w48 ⟨v_s66, rfl, o_s66, kk⟩
           replace r_t7 := zrb r_t7 kk
           replace r_t8 := zrb r_t8 kk
           replace r_t9 := zrb r_t9 kk
           replace r_t11 := zrb r_t11 kk
           replace r_t13 := zrb r_t13 kk
           replace r_t15 := zrb r_t15 kk
           replace f_s2 := zfb f_s2 kk
           have Bw23 := zbt HGS Bw22 kk
           clear Bw22 kk
           have f_s66 := o_s66.bs
           clear o_s66)
        | (have hgo := Bw23; clear hgo
           refine wpList_load_as rfl 27 (.tmp 8) rfl 256 (pyF f) arrPy r_t8 rfl (by omega) (fun i hi => by rw [Nat.zero_add]) ?_
           have Bw24 := Bw23
           clear Bw23)
        | (have hgo := Bw24; clear hgo
           go_at_call 29
           refine (HE2.out _).mono ?_
           rintro e w56 ⟨v_s72, rfl, o_s72, kk⟩
           replace r_t7 := zrb r_t7 kk
           replace r_t8 := zrb r_t8 kk
           replace r_t9 := zrb r_t9 kk
           replace r_t11 := zrb r_t11 kk
           replace r_t13 := zrb r_t13 kk
           replace r_t15 := zrb r_t15 kk
           replace f_s2 := zfb f_s2 kk
           replace f_s66 := zfb f_s66 kk
           have Bw25 := zbt HGS Bw24 kk
           clear Bw24 kk
           have f_s72 := o_s72.bs
           clear o_s72)
        | (have hgo := Bw25; clear hgo
           go_at_call 30
           refine (HD1.out _ _ f_s2).mono ?_
           rintro e w64 ⟨rfl, kk⟩
           replace r_t7 := zrb r_t7 kk
           replace r_t8 := zrb r_t8 kk
           replace r_t9 := zrb r_t9 kk
           replace r_t11 := zrb r_t11 kk
           replace r_t13 := zrb r_t13 kk
           replace r_t15 := zrb r_t15 kk
           replace f_s2 := zfb f_s2 kk
           replace f_s66 := zfb f_s66 kk
           replace f_s72 := zfb f_s72 kk
           have Bw26 := zbt HGS Bw25 kk
           clear Bw25 kk)
        | (have hgo := Bw26; clear hgo
           refine wpList_alloc_row rfl 26 rfl 256 (pyF fun _ => 0) zeroP ?_
           intro b_t21 w68 lk r_t21 kk
           have n_t7_t21 := zrn r_t7 lk
           have n_t8_t21 := zrn r_t8 lk
           have n_t9_t21 := zrn r_t9 lk
           have n_t11_t21 := zrn r_t11 lk
           have n_t13_t21 := zrn r_t13 lk
           have n_t15_t21 := zrn r_t15 lk
           have l_t21 := zrl HGS Bw26 lk
           have a_s2_t21 := Bs.away f_s2 lk
           have a_s66_t21 := Bs.away f_s66 lk
           have a_s72_t21 := Bs.away f_s72 lk
           replace r_t7 := zrb r_t7 kk
           replace r_t8 := zrb r_t8 kk
           replace r_t9 := zrb r_t9 kk
           replace r_t11 := zrb r_t11 kk
           replace r_t13 := zrb r_t13 kk
           replace r_t15 := zrb r_t15 kk
           replace f_s2 := zfb f_s2 kk
           replace f_s66 := zfb f_s66 kk
           replace f_s72 := zfb f_s72 kk
           have Bw27 := zbt HGS Bw26 kk
           clear Bw26 kk lk)
        | (have hgo := Bw27; clear hgo
           refine wpList_store_as rfl 26 (.tmp 21) (.tmp 79) rfl 256 (pyF R) arrP r_t21 rfl rfl (by omega) (fun _ _ => rfl) (fun i hi => putN_whole hi) ?_
           intro w69 q gk
           replace r_t7 := gb_rowIs r_t7 gk n_t7_t21
           replace r_t8 := gb_rowIs r_t8 gk n_t8_t21
           replace r_t9 := gb_rowIs r_t9 gk n_t9_t21
           replace r_t11 := gb_rowIs r_t11 gk n_t11_t21
           replace r_t13 := gb_rowIs r_t13 gk n_t13_t21
           replace r_t15 := gb_rowIs r_t15 gk n_t15_t21
           replace r_t21 := q
           have Bw28 := zbg HGS Bw27 gk l_t21
           replace f_s2 := gb_bs f_s2 gk a_s2_t21
           replace f_s66 := gb_bs f_s66 gk a_s66_t21
           replace f_s72 := gb_bs f_s72 gk a_s72_t21
           clear Bw27 gk q)
        | (have hgo := Bw28; clear hgo
           go_at_call 31
           refine (HD2.out _ _ f_s2).mono ?_
           rintro e w73 ⟨rfl, kk⟩
           replace r_t7 := zrb r_t7 kk
           replace r_t8 := zrb r_t8 kk
           replace r_t9 := zrb r_t9 kk
           replace r_t11 := zrb r_t11 kk
           replace r_t13 := zrb r_t13 kk
           replace r_t15 := zrb r_t15 kk
           replace r_t21 := zrb r_t21 kk
           replace f_s2 := zfb f_s2 kk
           replace f_s66 := zfb f_s66 kk
           replace f_s72 := zfb f_s72 kk
           have Bw29 := zbt HGS Bw28 kk
           clear Bw28 kk)
        | (have hgo := Bw29; clear hgo
           refine wpList_alloc_row rfl 27 rfl 256 (pyF fun _ => 0) zeroPy ?_
           intro b_t23 w77 lk r_t23 kk
           have n_t7_t23 := zrn r_t7 lk
           have n_t8_t23 := zrn r_t8 lk
           have n_t9_t23 := zrn r_t9 lk
           have n_t11_t23 := zrn r_t11 lk
           have n_t13_t23 := zrn r_t13 lk
           have n_t15_t23 := zrn r_t15 lk
           have n_t21_t23 := zrn r_t21 lk
           have l_t23 := zrl HGS Bw29 lk
           have a_s2_t23 := Bs.away f_s2 lk
           have a_s66_t23 := Bs.away f_s66 lk
           have a_s72_t23 := Bs.away f_s72 lk
           replace r_t7 := zrb r_t7 kk
           replace r_t8 := zrb r_t8 kk
           replace r_t9 := zrb r_t9 kk
           replace r_t11 := zrb r_t11 kk
           replace r_t13 := zrb r_t13 kk
           replace r_t15 := zrb r_t15 kk
           replace r_t21 := zrb r_t21 kk
           replace f_s2 := zfb f_s2 kk
           replace f_s66 := zfb f_s66 kk
           replace f_s72 := zfb f_s72 kk
           have Bw30 := zbt HGS Bw29 kk
           clear Bw29 kk lk)
        | (have hgo := Bw30; clear hgo
           refine wpList_store_as rfl 27 (.tmp 23) (.tmp 85) rfl 256 (pyF R) arrPy r_t23 rfl rfl (by omega) (fun _ _ => rfl) (fun i hi => putN_whole hi) ?_
           intro w78 q gk
           replace r_t7 := gb_rowIs r_t7 gk n_t7_t23
           replace r_t8 := gb_rowIs r_t8 gk n_t8_t23
           replace r_t9 := gb_rowIs r_t9 gk n_t9_t23
           replace r_t11 := gb_rowIs r_t11 gk n_t11_t23
           replace r_t13 := gb_rowIs r_t13 gk n_t13_t23
           replace r_t15 := gb_rowIs r_t15 gk n_t15_t23
           replace r_t21 := gb_rowIs r_t21 gk n_t21_t23
           replace r_t23 := q
           have Bw31 := zbg HGS Bw30 gk l_t23
           replace f_s2 := gb_bs f_s2 gk a_s2_t23
           replace f_s66 := gb_bs f_s66 gk a_s66_t23
           replace f_s72 := gb_bs f_s72 gk a_s72_t23
           clear Bw30 gk q)
        | (have hgo := Bw31; clear hgo
           refine wpList_load_as rfl 26 (.tmp 9) rfl 256 (pyF C) arrP r_t9 rfl (by omega) (fun i hi => by rw [Nat.zero_add]) ?_
           have Bw32 := Bw31
           clear Bw31)
        | (have hgo := Bw32; clear hgo
           refine wpList_load_as rfl 27 (.tmp 11) rfl 256 (pyF C) arrPy r_t11 rfl (by omega) (fun i hi => by rw [Nat.zero_add]) ?_
           have Bw33 := Bw32
           clear Bw32)
        | (have hgo := Bw33; clear hgo
           go_at_call 13
           refine (is_yes C C _ (fun _ _ => rfl)).mono ?_
           rintro e w82 ⟨rfl, kk⟩
           replace r_t7 := zrb r_t7 kk
           replace r_t8 := zrb r_t8 kk
           replace r_t9 := zrb r_t9 kk
           replace r_t11 := zrb r_t11 kk
           replace r_t13 := zrb r_t13 kk
           replace r_t15 := zrb r_t15 kk
           replace r_t21 := zrb r_t21 kk
           replace r_t23 := zrb r_t23 kk
           replace f_s2 := zfb f_s2 kk
           replace f_s66 := zfb f_s66 kk
           replace f_s72 := zfb f_s72 kk
           have Bw34 := zbt HGS Bw33 kk
           clear Bw33 kk)
        | (have hgo := Bw34; clear hgo
           refine wpList_load_asg rfl 26 (.tmp 13) rfl 256 (pyF E) arrP r_t13 rfl (by omega) (fun i hi => by rw [Nat.zero_add]) ?_
           have Bw35 := Bw34
           clear Bw34)
        | (have hgo := Bw35; clear hgo
           refine wpList_load_asg rfl 27 (.tmp 15) rfl 256 (pyF E) arrPy r_t15 rfl (by omega) (fun i hi => by rw [Nat.zero_add]) ?_
           have Bw36 := Bw35
           clear Bw35)
        | (have hgo := Bw36; clear hgo
           go_at_call 13
           refine (is_yes E E _ (fun _ _ => rfl)).mono ?_
           rintro e w91 ⟨rfl, kk⟩
           replace r_t7 := zrb r_t7 kk
           replace r_t8 := zrb r_t8 kk
           replace r_t9 := zrb r_t9 kk
           replace r_t11 := zrb r_t11 kk
           replace r_t13 := zrb r_t13 kk
           replace r_t15 := zrb r_t15 kk
           replace r_t21 := zrb r_t21 kk
           replace r_t23 := zrb r_t23 kk
           replace f_s2 := zfb f_s2 kk
           replace f_s66 := zfb f_s66 kk
           replace f_s72 := zfb f_s72 kk
           have Bw37 := zbt HGS Bw36 kk
           clear Bw36 kk)
        | (have hgo := Bw37; clear hgo
           refine wpList_value_given rfl (.string ⟨(le).toArray⟩) (by rw [exec_mkOp]; exact exec_str _ _ _ rfl f_s66) ?_
           have Bw38 := Bw37
           clear Bw37)
        | (have hgo := Bw38; clear hgo
           refine wpList_value_given rfl (.string ⟨(le).toArray⟩) (by rw [exec_mkOp]; exact exec_str _ _ _ rfl f_s72) ?_
           have Bw39 := Bw38
           clear Bw38)
        | (have hgo := Bw39; clear hgo
           refine wpList_load_asg rfl 26 (.tmp 21) rfl 256 (pyF R) arrP r_t21 rfl (by omega) (fun i hi => by rw [Nat.zero_add]) ?_
           have Bw40 := Bw39
           clear Bw39)
        | (have hgo := Bw40; clear hgo
           refine wpList_load_asg rfl 27 (.tmp 23) rfl 256 (pyF R) arrPy r_t23 rfl (by omega) (fun i hi => by rw [Nat.zero_add]) ?_
           have Bw41 := Bw40
           clear Bw40)
        | (have hgo := Bw41; clear hgo
           go_at_call 13
           refine (is_yes R R _ (fun _ _ => rfl)).mono ?_
           rintro e w113 ⟨rfl, kk⟩
           replace r_t7 := zrb r_t7 kk
           replace r_t8 := zrb r_t8 kk
           replace r_t9 := zrb r_t9 kk
           replace r_t11 := zrb r_t11 kk
           replace r_t13 := zrb r_t13 kk
           replace r_t15 := zrb r_t15 kk
           replace r_t21 := zrb r_t21 kk
           replace r_t23 := zrb r_t23 kk
           replace f_s2 := zfb f_s2 kk
           replace f_s66 := zfb f_s66 kk
           replace f_s72 := zfb f_s72 kk
           have Bw42 := zbt HGS Bw41 kk
           clear Bw41 kk)
        | (have hgo := Bw42; clear hgo
           go_at_call 9
           refine (awake10_any _).mono ?_
           rintro e w121 ⟨rfl, kk⟩
           replace r_t7 := zrb r_t7 kk
           replace r_t8 := zrb r_t8 kk
           replace r_t9 := zrb r_t9 kk
           replace r_t11 := zrb r_t11 kk
           replace r_t13 := zrb r_t13 kk
           replace r_t15 := zrb r_t15 kk
           replace r_t21 := zrb r_t21 kk
           replace r_t23 := zrb r_t23 kk
           replace f_s2 := zfb f_s2 kk
           replace f_s66 := zfb f_s66 kk
           replace f_s72 := zfb f_s72 kk
           have Bw43 := zbt HGS Bw42 kk
           clear Bw42 kk))
      go_ret
      exact ⟨rfl, Bw43⟩
    · have q1 : (500 : Int) < (n2 : Int) := by omega
      clear h0 hB0 e0 h2 hB2 e2 d0 d1
      go_enter Try.func4, Try.ntmps4
      go_wp2_with (first | (go_at_call 9; refine (awake10_any _).mono ?_; rintro e w9 ⟨rfl, hb9⟩))
      go_ret
      exact ⟨rfl, hb9⟩
  · have q0 : (256 : Int) < (n0 : Int) := by omega
    clear h0 hB0 e0 h2 hB2 e2 d0
    go_enter Try.func4, Try.ntmps4
    go_wp2_with (first | (go_at_call 9; refine (awake10_any _).mono ?_; rintro e w9 ⟨rfl, hb9⟩))
    go_ret
    exact ⟨rfl, hb9⟩
end Go.Proofs.Ytnpifjimmeehdaa
