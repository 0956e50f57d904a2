/- RingCodes, walked. -/
import Derived.Test.YtnpifjimmeehdaaMM3
namespace Go.Proofs.Ytnpifjimmeehdaa
open Go.RowKit Go.Deep
set_option linter.unusedSimpArgs false
set_option linter.unusedVariables false

theorem x_cv {ρ : Operand → Value} {x : Operand} {t : TypeId} {z : Nat} (hx : ρ x = .int .u16 (z : Int)) (hz : z < 65536) (w : World) : (execOp ρ (mkOp (.convert 24 3 x) t)).run Try.prog w = .ok (.value (.int .i64 (z : Int))) w := by
  have h : IntKind.i64.wrap (z : Int) = (z : Int) := IntWalk.i64_in _ (by omega)
  have h2 : wrap64 (z : Int) = (z : Int) := by unfold wrap64; omega
  simp only [execOp, mkOp, hx]
  go_simp
theorem x_sub {ρ : Operand → Value} {x y : Operand} {t : TypeId} {i j k : Int} (hx : ρ x = .int .i64 i) (hy : ρ y = .int .i64 j) (hk : IntKind.i64.wrap (i - j) = k) (w : World) :
    (execOp ρ (mkOp (.binOp .sub 3 x y 3) t)).run Try.prog w = .ok (.value (.int .i64 k)) w := by
  simp only [execOp, mkOp, hx, hy]
  go_simp
theorem x_shl1 {ρ : Operand → Value} {x y : Operand} {t : TypeId} {e P : Nat} (hx : ρ x = .int .i64 1) (hy : ρ y = .int .i64 (e : Int)) (he : e ≤ 20) (hP : P = 2 ^ e) (w : World) :
    (execOp ρ (mkOp (.binOp .shl 3 x y 3) t)).run Try.prog w = .ok (.value (.int .i64 (P : Int))) w := by
  have hl : 2 ^ e ≤ 2 ^ 20 := Nat.pow_le_pow_right (by decide) he
  have e1 : (2 : Int) ^ e = (P : Int) := by rw [hP, Int.natCast_pow]; rfl
  have h1 : IntKind.i64.wrap (2 ^ e) = (P : Int) := by rw [e1, IntWalk.i64_in _ (by omega)]
  have h2 : IntKind.i64.wrap (1 * 2 ^ e) = (P : Int) := by rw [Int.one_mul, h1]
  have h3 : wrap64 (2 ^ e) = (P : Int) := by rw [e1]; unfold wrap64; omega
  have h4 : wrap64 (2 ^ min e 64) = (P : Int) := by rw [Nat.min_eq_left (by omega), h3]
  have h5 : IntKind.i64.wrap (2 ^ min e 64) = (P : Int) := by rw [Nat.min_eq_left (by omega), h1]
  have h0 : 0 ≤ (e : Int) := by omega
  have h6 : ¬ (e : Int) < 0 := by omega
  have h7 : (e : Int) < 64 := by omega
  clear hl hP e1
  simp only [execOp, mkOp, hx, hy]
  go_simp
theorem x_shrI {ρ : Operand → Value} {x y : Operand} {t : TypeId} {a e b : Nat} (hx : ρ x = .int .i64 (a : Int)) (hy : ρ y = .int .i64 (e : Int)) (he : e ≤ 20) (ha : a < 1000000000) (hb : b = a / 2 ^ e) (w : World) :
    (execOp ρ (mkOp (.binOp .shr 3 x y 3) t)).run Try.prog w = .ok (.value (.int .i64 (b : Int))) w := by
  have e1 : (a : Int) / 2 ^ e = (b : Int) := by rw [hb, Int.natCast_ediv, Int.natCast_pow]; rfl
  have hba : b ≤ a := by rw [hb]; exact Nat.div_le_self _ _
  have h1 : IntKind.i64.wrap ((a : Int) / 2 ^ e) = (b : Int) := by rw [e1, IntWalk.i64_in _ (by omega)]
  have h2 : IntKind.i64.wrap (b : Int) = (b : Int) := IntWalk.i64_in _ (by omega)
  have h4 : (a : Int) / 2 ^ min e 64 = (b : Int) := by rw [Nat.min_eq_left (by omega), e1]
  have h0 : 0 ≤ (e : Int) := by omega
  have h6 : ¬ (e : Int) < 0 := by omega
  have h7 : (e : Int) < 64 := by omega
  clear hb hba ha
  simp only [execOp, mkOp, hx, hy]
  go_simp
theorem x_gtr {ρ : Operand → Value} {x y : Operand} {t : TypeId} {a b : Int} (hx : ρ x = .int .i64 a) (hy : ρ y = .int .i64 b) (h : a ≤ b) (w : World) :
    (execOp ρ (mkOp (.binOp .gtr 3 x y 3) t)).run Try.prog w = .ok (.value (.bool false)) w := by
  have h1 : ¬ b < a := by omega
  simp only [execOp, mkOp, hx, hy]
  go_simp
theorem x_geq {ρ : Operand → Value} {x y : Operand} {t : TypeId} {a b : Int} (hx : ρ x = .int .i64 a) (hy : ρ y = .int .i64 b) (h : a < b) (w : World) :
    (execOp ρ (mkOp (.binOp .geq 3 x y 3) t)).run Try.prog w = .ok (.value (.bool false)) w := by
  have h1 : ¬ b ≤ a := by omega
  simp only [execOp, mkOp, hx, hy]
  go_simp
theorem x_mulI {ρ : Operand → Value} {x y : Operand} {t : TypeId} {a b c : Int} (hx : ρ x = .int .i64 a) (hy : ρ y = .int .i64 b) (h : IntKind.i64.wrap (a * b) = c) (w : World) :
    (execOp ρ (mkOp (.binOp .mul 3 x y 3) t)).run Try.prog w = .ok (.value (.int .i64 c)) w := by
  simp only [execOp, mkOp, hx, hy]
  go_simp
theorem x_neqI {ρ : Operand → Value} {x y : Operand} {t : TypeId} {a b : Int} (hx : ρ x = .int .i64 a) (hy : ρ y = .int .i64 b) (h : a = b) (w : World) :
    (execOp ρ (mkOp (.binOp .neq 3 x y 3) t)).run Try.prog w = .ok (.value (.bool false)) w := by
  subst h
  simp only [execOp, mkOp, hx, hy]
  go_simp
theorem x_neqE {ρ : Operand → Value} {x y : Operand} {t : TypeId} (hx : ρ x = .int .i64 0) (hy : ρ y = .int .i64 0) (w : World) :
    (execOp ρ (mkOp (.binOp .neq 37 x y 37) t)).run Try.prog w = .ok (.value (.bool false)) w := by
  simp only [execOp, mkOp, hx, hy]
  go_simp
theorem wpList_minI {ops : Array Oper} {rest : List Oper} {o : Oper} {a : Act} {w : World} {Q : Exit → Act → World → Prop} (hgd : o.guard = none) (x y : Operand) {ts : Array TypeId} (ho : o.op = .call { callee := .builtin .min, args := #[x, y], argTypes := ts }) {k : IntKind} {i j m : Int}
    (hx : a.eval x = .int k i) (hy : a.eval y = .int k j) (hm : m = if j < i then j else i) (h : wpList Try.prog ops Q rest (a.put o.dst (.int k m)) w) : wpList Try.prog ops Q (o :: rest) a w := by
  refine wpList_value hgd (.int k m) ?_ h
  subst hm
  simp [execOp, ho, resolve, invoke, builtin, hx, hy, run_min_int2, Result.andThen]
/-- What was written is read. -/
theorem codes_back (f : Nat → Nat) (d i : Nat) (hi : i < 256) : decV (numL (encL f d) (32 * d)) d i = vvN f d i := by
  have h1 : pk (vvN f d) d 256 < 256 ^ (32 * d) := by
    rw [p256, show 8 * (32 * d) = d * 256 by omega]
    exact pk_lt _ _ (vvN_lt f d) 256
  unfold decV encL
  rw [numL_litB _ _ _ (Nat.le_refl _), Nat.mod_eq_of_lt h1]
  exact pk_part (vvN f d) d (vvN_lt f d) i 256 hi
theorem near_all : (List.range 11).all (fun e => (List.range 3329).all fun x => decide (min ((((x % 3329 * 2 ^ (e + 1) + 1664) / 3329 % 2 ^ (e + 1) % 2 ^ (e + 1) * 3329 + 2 ^ e) / 2 ^ (e + 1) + 3329 - x) % 3329) (3329 - (((x % 3329 * 2 ^ (e + 1) + 1664) / 3329 % 2 ^ (e + 1) % 2 ^ (e + 1) * 3329 + 2 ^ e) / 2 ^ (e + 1) + 3329 - x) % 3329) ≤ (3329 + 2 ^ (e + 2) - 1) / 2 ^ (e + 2))) = true := by decide +kernel
theorem near (D x c u : Nat) (h1 : 1 ≤ D) (h2 : D ≤ 11) (hx : x < 3329) (hc : c = (x % 3329 * 2 ^ D + 1664) / 3329 % 2 ^ D) (hu : u = (c % 2 ^ D * 3329 + 2 ^ (D - 1)) / 2 ^ D) :
    min ((u + 3329 - x) % 3329) (3329 - (u + 3329 - x) % 3329) ≤ (3329 + 2 ^ (D + 1) - 1) / 2 ^ (D + 1) := by
  obtain ⟨e, rfl⟩ : ∃ e, D = e + 1 := ⟨D - 1, by omega⟩
  have h := List.all_eq_true.1 (List.all_eq_true.1 near_all e (List.mem_range.2 (by omega))) x (List.mem_range.2 hx)
  have h3 := of_decide_eq_true h
  rw [hu, hc]
  exact h3
set_option maxHeartbeats 8000000 in
set_option maxRecDepth 100000 in
theorem law_ringCodes (w : World) (v0 : Value) (l0 : List Int) (h0 : NumsK .u16 w v0 l0) (x1 : Int) (w1 : (Lit.int .i64 x1).wf = true) : Calls Try.prog 6 #[v0, .int .i64 x1] w fun e w' => e = .returned (.bool true) ∧ Below w.heap.size w w' := by
  obtain ⟨ad0, n0, c0, rfl, e0, y0, z0, hB0⟩ := h0.shape
  by_cases d0 : n0 ≤ 256
  · have q0 : ¬ (256 : Int) < (n0 : Int) := by omega
    by_cases d1 : 1 ≤ x1
    · have q1 : ¬ x1 < 1 := by omega
      by_cases d2 : x1 ≤ 12
      · have q2 : ¬ (12 : Int) < x1 := by omega
        have Bw0 := Below.refl w.heap.size w
        have HGS : Hid (∀ wq : World, Below w.heap.size w wq → w.heap.size ≤ wq.heap.size) := Lib.hid fun wq h => h.size
        obtain ⟨f, hf⟩ : ∃ f, f = polN l0 := ⟨_, rfl⟩
        have Hf : Hid (∀ i, f i < 65536) := Lib.hid (by rw [hf]; exact polN_lt (NumsK.wf hB0))
        have HP0 := Lib.hid fun W (hW : Below w.heap.size w W) => poly_any _ l0 W (NumsK.below hB0 hW (Nat.le_refl _)) (by omega)
        rw [← hf] at HP0
        clear hf
        have HMf := Lib.hid fun w => rMay_any f w Hf.out
        have HNf := Lib.hid fun w => refMay_any f w Hf.out
        obtain ⟨D, rfl⟩ : ∃ D : Nat, x1 = (D : Int) := ⟨x1.toNat, by omega⟩
        have HDL : Hid (1 ≤ D ∧ D ≤ 12) := Lib.hid (by omega)
        clear w1
        clear h0 hB0 e0 d0 d1 d2
        by_cases hm0 : mayN f = true
        · have HAf := Lib.hid (mayN_all hm0)
          rw [hm0] at HMf HNf
          clear hm0
          obtain ⟨le, hle⟩ : ∃ l, l = encL f 12 := ⟨_, rfl⟩
          have hll : le.length = 32 * 12 := by rw [hle]; exact litB_length _ _
          obtain ⟨F2, hF2⟩ : ∃ F, F = decV (numL le (32 * 12)) 12 := ⟨_, rfl⟩
          have hf2 : ∀ i, i < 256 → F2 i = f i := fun i hi => by rw [hF2, hle, codes_back f 12 i hi, vvN, if_pos rfl, Nat.mod_eq_of_lt (HAf.out i hi)]
          have HF2 := Lib.hid hf2
          have HE12 : Hid (∀ W, Calls Try.prog 28 #[.agg (arrOf 256 (pyF f)), .int .i64 12] W fun e w' => ∃ v, e = .returned (.tuple #[v, .int .i64 0]) ∧ Owns w' W.heap.size v le ∧ Below W.heap.size W w') := Lib.hid fun W => by
            rw [hle]
            exact rEncode12 f 12 W Hf.out rfl
          have HD12 : Hid (∀ W v, Bs W v le → Calls Try.prog 30 #[.int .i64 12, v] W fun e w' => e = .returned (.tuple #[.agg (arrOf 256 (pyF F2)), .int .i64 0]) ∧ Below W.heap.size W w') := Lib.hid fun W v hv => by
            have h := rDecode_ok 12 v le W hv hll (by decide) (by decide)
            have hm : mayN F2 = true := mayN_yes fun i hi => by rw [hf2 i hi]; exact HAf.out i hi
            rw [← hF2, if_pos hm, if_pos hm] at h
            exact h
          clear hle hll hF2 hf2
          by_cases hD : D = 12
          · have rE := Lib.hid (run_eqlI (D : Int) 12 true (decide_eq_true (by omega)))
            clear hD
            go_enter Try.func6, Try.ntmps6
            go_wp2_with (first
              | (have hgo := Bw0; clear hgo
                 go_at_call 10
                 refine (HP0.out _ Bw0).mono ?_
                 rintro e w2 ⟨rfl, kk⟩
                 have Bw1 := zbt HGS Bw0 kk
                 clear Bw0 kk)
              | (have hgo := Bw1; clear hgo
                 refine wpList_alloc_row rfl 26 rfl 256 (pyF fun _ => 0) zeroP ?_
                 intro b_t5 w6 lk r_t5 kk
                 have l_t5 := zrl HGS Bw1 lk
                 have Bw2 := zbt HGS Bw1 kk
                 clear Bw1 kk lk)
              | (have hgo := Bw2; clear hgo
                 refine wpList_alloc_row rfl 27 rfl 256 (pyF fun _ => 0) zeroPy ?_
                 intro b_t6 w7 lk r_t6 kk
                 have n_t5_t6 := zrn r_t5 lk
                 have l_t6 := zrl HGS Bw2 lk
                 replace r_t5 := zrb r_t5 kk
                 have Bw3 := zbt HGS Bw2 kk
                 clear Bw2 kk lk)
              | (have hgo := Bw3; clear hgo
                 refine wpList_store_as rfl 26 (.tmp 5) (.tmp 34) rfl 256 (pyF f) arrP r_t5 rfl rfl (by omega) (fun _ _ => rfl) (fun i hi => putN_whole hi) ?_
                 intro w8 q gk
                 replace r_t6 := gb_rowIs r_t6 gk (Ne.symm n_t5_t6)
                 replace r_t5 := q
                 have Bw4 := zbg HGS Bw3 gk l_t5
                 clear Bw3 gk q)
              | (have hgo := Bw4; clear hgo
                 refine wpList_store_as rfl 27 (.tmp 6) (.tmp 35) rfl 256 (pyF f) arrPy r_t6 rfl rfl (by omega) (fun _ _ => rfl) (fun i hi => putN_whole hi) ?_
                 intro w9 q gk
                 replace r_t5 := gb_rowIs r_t5 gk n_t5_t6
                 replace r_t6 := q
                 have Bw5 := zbg HGS Bw4 gk l_t6
                 clear Bw4 gk q)
              | (have hgo := Bw5; clear hgo
                 refine wpList_load_as rfl 27 (.tmp 6) rfl 256 (pyF f) arrPy r_t6 rfl (by omega) (fun i hi => by rw [Nat.zero_add]) ?_
                 have Bw6 := Bw5
                 clear Bw5)
              | (have hgo := Bw6; clear hgo
                 go_at_call 12
                 refine (HNf.out _).mono ?_
                 rintro e w11 ⟨rfl, kk⟩
                 replace r_t5 := zrb r_t5 kk
                 replace r_t6 := zrb r_t6 kk
                 have Bw7 := zbt HGS Bw6 kk
                 clear Bw6 kk)
              | (have hgo := Bw7; clear hgo
                 refine wpList_load_as rfl 26 (.tmp 5) rfl 256 (pyF f) arrP r_t5 rfl (by omega) (fun i hi => by rw [Nat.zero_add]) ?_
                 have Bw8 := Bw7
                 clear Bw7)
              | (have hgo := Bw8; clear hgo
                 go_at_call 28
                 refine (HE12.out _).mono ?_
                 rintro e w14 ⟨v_s42, rfl, o_s42, kk⟩
                 replace r_t5 := zrb r_t5 kk
                 replace r_t6 := zrb r_t6 kk
                 have Bw9 := zbt HGS Bw8 kk
                 clear Bw8 kk
                 have f_s42 := o_s42.bs
                 clear o_s42)
              | (have hgo := Bw9; clear hgo
                 go_at_call 30
                 refine (HD12.out _ _ f_s42).mono ?_
                 rintro e w21 ⟨rfl, kk⟩
                 replace r_t5 := zrb r_t5 kk
                 replace r_t6 := zrb r_t6 kk
                 replace f_s42 := zfb f_s42 kk
                 have Bw10 := zbt HGS Bw9 kk
                 clear Bw9 kk)
              | (have hgo := Bw10; clear hgo
                 refine wpList_alloc_row rfl 26 rfl 256 (pyF fun _ => 0) zeroP ?_
                 intro b_t9 w25 lk r_t9 kk
                 have n_t5_t9 := zrn r_t5 lk
                 have n_t6_t9 := zrn r_t6 lk
                 have l_t9 := zrl HGS Bw10 lk
                 have a_s42_t9 := Bs.away f_s42 lk
                 replace r_t5 := zrb r_t5 kk
                 replace r_t6 := zrb r_t6 kk
                 replace f_s42 := zfb f_s42 kk
                 have Bw11 := zbt HGS Bw10 kk
                 clear Bw10 kk lk)
              | (have hgo := Bw11; clear hgo
                 refine wpList_store_as rfl 26 (.tmp 9) (.tmp 48) rfl 256 (pyF F2) arrP r_t9 rfl rfl (by omega) (fun _ _ => rfl) (fun i hi => putN_whole hi) ?_
                 intro w26 q gk
                 replace r_t5 := gb_rowIs r_t5 gk n_t5_t9
                 replace r_t6 := gb_rowIs r_t6 gk n_t6_t9
                 replace r_t9 := q
                 have Bw12 := zbg HGS Bw11 gk l_t9
                 replace f_s42 := gb_bs f_s42 gk a_s42_t9
                 clear Bw11 gk q)
              | (have hgo := Bw12; clear hgo
                 refine wpList_load_asg rfl 26 (.tmp 9) rfl 256 (pyF F2) arrP r_t9 rfl (by omega) (fun i hi => by rw [Nat.zero_add]) ?_
                 have Bw13 := Bw12
                 clear Bw12)
              | (have hgo := Bw13; clear hgo
                 refine wpList_load_asg rfl 27 (.tmp 6) rfl 256 (pyF f) arrPy r_t6 rfl (by omega) (fun i hi => by rw [Nat.zero_add]) ?_
                 have Bw14 := Bw13
                 clear Bw13)
              | (have hgo := Bw14; clear hgo
                 go_at_call 13
                 refine (is_yes F2 f _ (HF2.out)).mono ?_
                 rintro e w37 ⟨rfl, kk⟩
                 replace r_t5 := zrb r_t5 kk
                 replace r_t6 := zrb r_t6 kk
                 replace r_t9 := zrb r_t9 kk
                 replace f_s42 := zfb f_s42 kk
                 have Bw15 := zbt HGS Bw14 kk
                 clear Bw14 kk)
              | (have hgo := Bw15; clear hgo
                 refine wpList_binR (o := ⟨some 63, _, _, _, _, _⟩) rfl .eql 3 3 _ _ rfl (fun _ => rfl) rE.out rfl rfl ?_
                 have Bw16 := Bw15
                 clear Bw15)
              | (have hgo := Bw16; clear hgo
                 go_at_call 9
                 refine (awake10_any _).mono ?_
                 rintro e w40 ⟨rfl, kk⟩
                 replace r_t5 := zrb r_t5 kk
                 replace r_t6 := zrb r_t6 kk
                 replace r_t9 := zrb r_t9 kk
                 replace f_s42 := zfb f_s42 kk
                 have Bw17 := zbt HGS Bw16 kk
                 clear Bw16 kk))
            go_ret
            exact ⟨rfl, Bw17⟩
          · have rE := Lib.hid (run_eqlI (D : Int) 12 false (decide_eq_false (by omega)))
            have HD11 : Hid (1 ≤ D ∧ D ≤ 11) := Lib.hid (by have := HDL.out; omega)
            obtain ⟨c, hc⟩ : ∃ c : Nat → Nat, c = fun k => (f k % 3329 * 2 ^ D + 1664) / 3329 % 2 ^ D := ⟨_, rfl⟩
            obtain ⟨u, hu⟩ : ∃ u : Nat → Nat, u = fun k => (c k % 2 ^ D * 3329 + 2 ^ (D - 1)) / 2 ^ D := ⟨_, rfl⟩
            have hpD : 2 ^ D ≤ 2 ^ 11 := Nat.pow_le_pow_right (by decide) HD11.out.2
            have hp1 : 0 < 2 ^ D := Nat.pow_pos (by decide)
            have hcl : ∀ i, c i < 2 ^ D := fun i => by rw [hc]; exact Nat.mod_lt _ hp1
            have hpe : 2 ^ D = 2 * 2 ^ (D - 1) := by rw [Nat.mul_comm, ← Nat.pow_succ, Nat.succ_eq_add_one, Nat.sub_add_cancel HD11.out.1]
            have HCL := Lib.hid hcl
            have HUL : Hid (∀ i, u i < 65536) := Lib.hid fun i => by
              rw [hu]
              have h2 : c i % 2 ^ D < 2 ^ D := Nat.mod_lt _ hp1
              exact Nat.div_lt_of_lt_mul (by omega)
            have HCC : Hid (∀ i, c i < 65536) := Lib.hid fun i => by have := hcl i; omega
            have HNEAR : Hid (∀ k, k < 256 → min ((u k + 3329 - f k) % 3329) (3329 - (u k + 3329 - f k) % 3329) ≤ (3329 + 2 ^ (D + 1) - 1) / 2 ^ (D + 1)) := Lib.hid fun k hk => near D (f k) (c k) (u k) HD11.out.1 HD11.out.2 (HAf.out k hk) (by rw [hc]) (by rw [hu])
            have HC := Lib.hid fun W => rCompress_ok f D W Hf.out HD11.out.1 HD11.out.2
            rw [← hc] at HC
            have HX := Lib.hid fun W => rExpand_ok c D W HCC.out HD11.out.1 HD11.out.2
            rw [← hu] at HX
            obtain ⟨lp, hlp⟩ : ∃ l, l = encL c D := ⟨_, rfl⟩
            have hll : lp.length = 32 * D := by rw [hlp]; exact litB_length _ _
            have HLP := Lib.hid hll
            obtain ⟨F3, hF3⟩ : ∃ F, F = decV (numL lp (32 * D)) D := ⟨_, rfl⟩
            have HF3 : Hid (∀ i, i < 256 → F3 i = c i) := Lib.hid fun i hi => by rw [hF3, hlp, codes_back c D i hi, vvN, if_neg hD, Nat.mod_eq_of_lt (hcl i)]
            have HED := Lib.hid fun W => rEncodeD c D W HCC.out ⟨HD11.out.1, by have := HD11.out; omega⟩
            rw [← hlp] at HED
            have HDD : Hid (∀ W v, Bs W v lp → Calls Try.prog 30 #[.int .i64 (D : Int), v] W fun e w' => e = .returned (.tuple #[.agg (arrOf 256 (pyF F3)), .int .i64 0]) ∧ Below W.heap.size W w') := Lib.hid fun W v hv => by
              have h := rDecode_ok D v lp W hv hll HD11.out.1 (by have := HD11.out; omega)
              rw [may_small (numL lp (32 * D)) D (by have := HD11.out; omega), if_pos rfl, if_pos rfl, ← hF3] at h
              exact h
            obtain ⟨LL, hLL⟩ := nat_var (32 * D)
            have HLL : Hid ((lp.length : Int) = (LL : Int)) := Lib.hid (by rw [hll, hLL])
            have HWL : Hid (IntKind.i64.wrap (32 * (D : Int)) = (LL : Int)) := Lib.hid (by rw [IntWalk.i64_in _ (by have := HD11.out; omega)]; omega)
            obtain ⟨e1, he1⟩ := nat_var (D + 1)
            have HWE : Hid (IntKind.i64.wrap ((D : Int) + ((1 : Nat) : Int)) = (e1 : Int)) := Lib.hid (by rw [IntWalk.i64_in _ (by have := HD11.out; omega)]; omega)
            obtain ⟨Q, hQ⟩ := nat_var (2 ^ e1)
            have hQl : Q ≤ 2 ^ 12 := by rw [hQ]; exact Nat.pow_le_pow_right (by decide) (by have := HD11.out; omega)
            obtain ⟨s1, hs1⟩ := nat_var (3329 + Q)
            have HS1 : Hid (IntKind.i64.wrap (((3329 : Nat) : Int) + (Q : Int)) = (s1 : Int)) := Lib.hid (by rw [IntWalk.i64_in _ (by omega)]; omega)
            obtain ⟨s2, hs2⟩ := nat_var (s1 - 1)
            have HS2 : Hid (IntKind.i64.wrap ((s1 : Int) - 1) = (s2 : Int)) := Lib.hid (by rw [IntWalk.i64_in _ (by omega)]; omega)
            obtain ⟨B, hB⟩ := nat_var (s2 / 2 ^ e1)
            have HBV : Hid (B = (3329 + 2 ^ (D + 1) - 1) / 2 ^ (D + 1)) := Lib.hid (by rw [hB, hs2, hs1, hQ, he1])
            obtain ⟨PD, hPD⟩ := nat_var (2 ^ D)
            have HE1 : Hid (e1 ≤ 20 ∧ D ≤ 20 ∧ s2 < 1000000000) := Lib.hid (by have := HD11.out; omega)
            have HQ := Lib.hid hQ
            have HB := Lib.hid hB
            have HPD := Lib.hid hPD
            clear hc hu hpD hp1 hcl hpe hlp hll hF3 hLL he1 hQ hQl hs1 hs2 hB hPD hD
            go_enter Try.func6, Try.ntmps6
            go_wp2_with (first
              | (have hgo := Bw0; clear hgo
                 go_at_call 10
                 refine (HP0.out _ Bw0).mono ?_
                 rintro e w2 ⟨rfl, kk⟩
                 have Bw1 := zbt HGS Bw0 kk
                 clear Bw0 kk)
              | (have hgo := Bw1; clear hgo
                 refine wpList_alloc_row rfl 26 rfl 256 (pyF fun _ => 0) zeroP ?_
                 intro b_t5 w6 lk r_t5 kk
                 have l_t5 := zrl HGS Bw1 lk
                 have Bw2 := zbt HGS Bw1 kk
                 clear Bw1 kk lk)
              | (have hgo := Bw2; clear hgo
                 refine wpList_alloc_row rfl 27 rfl 256 (pyF fun _ => 0) zeroPy ?_
                 intro b_t6 w7 lk r_t6 kk
                 have n_t5_t6 := zrn r_t5 lk
                 have l_t6 := zrl HGS Bw2 lk
                 replace r_t5 := zrb r_t5 kk
                 have Bw3 := zbt HGS Bw2 kk
                 clear Bw2 kk lk)
              | (have hgo := Bw3; clear hgo
                 refine wpList_store_as rfl 26 (.tmp 5) (.tmp 34) rfl 256 (pyF f) arrP r_t5 rfl rfl (by omega) (fun _ _ => rfl) (fun i hi => putN_whole hi) ?_
                 intro w8 q gk
                 replace r_t6 := gb_rowIs r_t6 gk (Ne.symm n_t5_t6)
                 replace r_t5 := q
                 have Bw4 := zbg HGS Bw3 gk l_t5
                 clear Bw3 gk q)
              | (have hgo := Bw4; clear hgo
                 refine wpList_store_as rfl 27 (.tmp 6) (.tmp 35) rfl 256 (pyF f) arrPy r_t6 rfl rfl (by omega) (fun _ _ => rfl) (fun i hi => putN_whole hi) ?_
                 intro w9 q gk
                 replace r_t5 := gb_rowIs r_t5 gk n_t5_t6
                 replace r_t6 := q
                 have Bw5 := zbg HGS Bw4 gk l_t6
                 clear Bw4 gk q)
              | (have hgo := Bw5; clear hgo
                 refine wpList_load_as rfl 27 (.tmp 6) rfl 256 (pyF f) arrPy r_t6 rfl (by omega) (fun i hi => by rw [Nat.zero_add]) ?_
                 have Bw6 := Bw5
                 clear Bw5)
              | (have hgo := Bw6; clear hgo
                 go_at_call 12
                 refine (HNf.out _).mono ?_
                 rintro e w11 ⟨rfl, kk⟩
                 replace r_t5 := zrb r_t5 kk
                 replace r_t6 := zrb r_t6 kk
                 have Bw7 := zbt HGS Bw6 kk
                 clear Bw6 kk)
              | (have hgo := Bw7; clear hgo
                 refine wpList_load_as rfl 26 (.tmp 5) rfl 256 (pyF f) arrP r_t5 rfl (by omega) (fun i hi => by rw [Nat.zero_add]) ?_
                 have Bw8 := Bw7
                 clear Bw7)
              | (have hgo := Bw8; clear hgo
                 go_at_call 28
                 refine (HE12.out _).mono ?_
                 rintro e w14 ⟨v_s42, rfl, o_s42, kk⟩
                 replace r_t5 := zrb r_t5 kk
                 replace r_t6 := zrb r_t6 kk
                 have Bw9 := zbt HGS Bw8 kk
                 clear Bw8 kk
                 have f_s42 := o_s42.bs
                 clear o_s42)
              | (have hgo := Bw9; clear hgo
                 go_at_call 30
                 refine (HD12.out _ _ f_s42).mono ?_
                 rintro e w21 ⟨rfl, kk⟩
                 replace r_t5 := zrb r_t5 kk
                 replace r_t6 := zrb r_t6 kk
                 replace f_s42 := zfb f_s42 kk
                 have Bw10 := zbt HGS Bw9 kk
                 clear Bw9 kk)
              | (have hgo := Bw10; clear hgo
                 refine wpList_alloc_row rfl 26 rfl 256 (pyF fun _ => 0) zeroP ?_
                 intro b_t9 w25 lk r_t9 kk
                 have n_t5_t9 := zrn r_t5 lk
                 have n_t6_t9 := zrn r_t6 lk
                 have l_t9 := zrl HGS Bw10 lk
                 have a_s42_t9 := Bs.away f_s42 lk
                 replace r_t5 := zrb r_t5 kk
                 replace r_t6 := zrb r_t6 kk
                 replace f_s42 := zfb f_s42 kk
                 have Bw11 := zbt HGS Bw10 kk
                 clear Bw10 kk lk)
              | (have hgo := Bw11; clear hgo
                 refine wpList_store_as rfl 26 (.tmp 9) (.tmp 48) rfl 256 (pyF F2) arrP r_t9 rfl rfl (by omega) (fun _ _ => rfl) (fun i hi => putN_whole hi) ?_
                 intro w26 q gk
                 replace r_t5 := gb_rowIs r_t5 gk n_t5_t9
                 replace r_t6 := gb_rowIs r_t6 gk n_t6_t9
                 replace r_t9 := q
                 have Bw12 := zbg HGS Bw11 gk l_t9
                 replace f_s42 := gb_bs f_s42 gk a_s42_t9
                 clear Bw11 gk q)
              | (have hgo := Bw12; clear hgo
                 refine wpList_load_asg rfl 26 (.tmp 9) rfl 256 (pyF F2) arrP r_t9 rfl (by omega) (fun i hi => by rw [Nat.zero_add]) ?_
                 have Bw13 := Bw12
                 clear Bw12)
              | (have hgo := Bw13; clear hgo
                 refine wpList_load_asg rfl 27 (.tmp 6) rfl 256 (pyF f) arrPy r_t6 rfl (by omega) (fun i hi => by rw [Nat.zero_add]) ?_
                 have Bw14 := Bw13
                 clear Bw13)
              | (have hgo := Bw14; clear hgo
                 go_at_call 13
                 refine (is_yes F2 f _ (HF2.out)).mono ?_
                 rintro e w37 ⟨rfl, kk⟩
                 replace r_t5 := zrb r_t5 kk
                 replace r_t6 := zrb r_t6 kk
                 replace r_t9 := zrb r_t9 kk
                 replace f_s42 := zfb f_s42 kk
                 have Bw15 := zbt HGS Bw14 kk
                 clear Bw14 kk)
              | (have hgo := Bw15; clear hgo
                 refine wpList_binR (o := ⟨some 63, _, _, _, _, _⟩) rfl .eql 3 3 _ _ rfl (fun _ => rfl) rE.out rfl rfl ?_
                 have Bw16 := Bw15
                 clear Bw15)
              | (have hgo := Bw16; clear hgo
                 refine wpList_load_as rfl 26 (.tmp 5) rfl 256 (pyF f) arrP r_t5 rfl (by omega) (fun i hi => by rw [Nat.zero_add]) ?_
                 have Bw17 := Bw16
                 clear Bw16)
              | (have hgo := Bw17; clear hgo
                 go_at_call 24
                 refine (HC.out _).mono ?_
                 rintro e w42 ⟨rfl, kk⟩
                 replace r_t5 := zrb r_t5 kk
                 replace r_t6 := zrb r_t6 kk
                 replace r_t9 := zrb r_t9 kk
                 replace f_s42 := zfb f_s42 kk
                 have Bw18 := zbt HGS Bw17 kk
                 clear Bw17 kk)
              | (have hgo := Bw18; clear hgo
                 refine wpList_alloc_row rfl 26 rfl 256 (pyF fun _ => 0) zeroP ?_
                 intro b_t11 w46 lk r_t11 kk
                 have n_t5_t11 := zrn r_t5 lk
                 have n_t6_t11 := zrn r_t6 lk
                 have n_t9_t11 := zrn r_t9 lk
                 have l_t11 := zrl HGS Bw18 lk
                 have a_s42_t11 := Bs.away f_s42 lk
                 replace r_t5 := zrb r_t5 kk
                 replace r_t6 := zrb r_t6 kk
                 replace r_t9 := zrb r_t9 kk
                 replace f_s42 := zfb f_s42 kk
                 have Bw19 := zbt HGS Bw18 kk
                 clear Bw18 kk lk)
              | (have hgo := Bw19; clear hgo
                 refine wpList_store_as rfl 26 (.tmp 11) (.tmp 69) rfl 256 (pyF c) arrP r_t11 rfl rfl (by omega) (fun _ _ => rfl) (fun i hi => putN_whole hi) ?_
                 intro w47 q gk
                 replace r_t5 := gb_rowIs r_t5 gk n_t5_t11
                 replace r_t6 := gb_rowIs r_t6 gk n_t6_t11
                 replace r_t9 := gb_rowIs r_t9 gk n_t9_t11
                 replace r_t11 := q
                 have Bw20 := zbg HGS Bw19 gk l_t11
                 replace f_s42 := gb_bs f_s42 gk a_s42_t11
                 clear Bw19 gk q)
              | (have hgo := Bw20; clear hgo
                 refine wpList_load_as rfl 26 (.tmp 11) rfl 256 (pyF c) arrP r_t11 rfl (by omega) (fun i hi => by rw [Nat.zero_add]) ?_
                 have Bw21 := Bw20
                 clear Bw20)
              | (have hgo := Bw21; clear hgo
                 go_at_call 26
                 refine (HX.out _).mono ?_
                 rintro e w51 ⟨rfl, kk⟩
                 replace r_t5 := zrb r_t5 kk
                 replace r_t6 := zrb r_t6 kk
                 replace r_t9 := zrb r_t9 kk
                 replace r_t11 := zrb r_t11 kk
                 replace f_s42 := zfb f_s42 kk
                 have Bw22 := zbt HGS Bw21 kk
                 clear Bw21 kk)
              | (have hgo := Bw22; clear hgo
                 refine wpList_alloc_row rfl 26 rfl 256 (pyF fun _ => 0) zeroP ?_
                 intro b_t12 w55 lk r_t12 kk
                 have n_t5_t12 := zrn r_t5 lk
                 have n_t6_t12 := zrn r_t6 lk
                 have n_t9_t12 := zrn r_t9 lk
                 have n_t11_t12 := zrn r_t11 lk
                 have l_t12 := zrl HGS Bw22 lk
                 have a_s42_t12 := Bs.away f_s42 lk
                 replace r_t5 := zrb r_t5 kk
                 replace r_t6 := zrb r_t6 kk
                 replace r_t9 := zrb r_t9 kk
                 replace r_t11 := zrb r_t11 kk
                 replace f_s42 := zfb f_s42 kk
                 have Bw23 := zbt HGS Bw22 kk
                 clear Bw22 kk lk)
              | (have hgo := Bw23; clear hgo
                 refine wpList_store_as rfl 26 (.tmp 12) (.tmp 75) rfl 256 (pyF u) arrP r_t12 rfl rfl (by omega) (fun _ _ => rfl) (fun i hi => putN_whole hi) ?_
                 intro w56 q gk
                 replace r_t5 := gb_rowIs r_t5 gk n_t5_t12
                 replace r_t6 := gb_rowIs r_t6 gk n_t6_t12
                 replace r_t9 := gb_rowIs r_t9 gk n_t9_t12
                 replace r_t11 := gb_rowIs r_t11 gk n_t11_t12
                 replace r_t12 := q
                 have Bw24 := zbg HGS Bw23 gk l_t12
                 replace f_s42 := gb_bs f_s42 gk a_s42_t12
                 clear Bw23 gk q)
              | (have hgo := Bw24; clear hgo
                 refine wpList_load_as rfl 26 (.tmp 11) rfl 256 (pyF c) arrP r_t11 rfl (by omega) (fun i hi => by rw [Nat.zero_add]) ?_
                 have Bw25 := Bw24
                 clear Bw24)
              | (have hgo := Bw25; clear hgo
                 go_at_call 28
                 refine (HED.out _).mono ?_
                 rintro e w60 ⟨v_s80, rfl, o_s80, kk⟩
                 replace r_t5 := zrb r_t5 kk
                 replace r_t6 := zrb r_t6 kk
                 replace r_t9 := zrb r_t9 kk
                 replace r_t11 := zrb r_t11 kk
                 replace r_t12 := zrb r_t12 kk
                 replace f_s42 := zfb f_s42 kk
                 have Bw26 := zbt HGS Bw25 kk
                 clear Bw25 kk
                 have f_s80 := o_s80.bs
                 clear o_s80)
              | (have hgo := Bw26; clear hgo
                 go_at_call 30
                 refine (HDD.out _ _ f_s80).mono ?_
                 rintro e w68 ⟨rfl, kk⟩
                 replace r_t5 := zrb r_t5 kk
                 replace r_t6 := zrb r_t6 kk
                 replace r_t9 := zrb r_t9 kk
                 replace r_t11 := zrb r_t11 kk
                 replace r_t12 := zrb r_t12 kk
                 replace f_s42 := zfb f_s42 kk
                 replace f_s80 := zfb f_s80 kk
                 have Bw27 := zbt HGS Bw26 kk
                 clear Bw26 kk)
              | (have hgo := Bw27; clear hgo
                 refine wpList_alloc_row rfl 26 rfl 256 (pyF fun _ => 0) zeroP ?_
                 intro b_t15 w72 lk r_t15 kk
                 have n_t5_t15 := zrn r_t5 lk
                 have n_t6_t15 := zrn r_t6 lk
                 have n_t9_t15 := zrn r_t9 lk
                 have n_t11_t15 := zrn r_t11 lk
                 have n_t12_t15 := zrn r_t12 lk
                 have l_t15 := zrl HGS Bw27 lk
                 have a_s42_t15 := Bs.away f_s42 lk
                 have a_s80_t15 := Bs.away f_s80 lk
                 replace r_t5 := zrb r_t5 kk
                 replace r_t6 := zrb r_t6 kk
                 replace r_t9 := zrb r_t9 kk
                 replace r_t11 := zrb r_t11 kk
                 replace r_t12 := zrb r_t12 kk
                 replace f_s42 := zfb f_s42 kk
                 replace f_s80 := zfb f_s80 kk
                 have Bw28 := zbt HGS Bw27 kk
                 clear Bw27 kk lk)
              | (have hgo := Bw28; clear hgo
                 refine wpList_store_as rfl 26 (.tmp 15) (.tmp 87) rfl 256 (pyF F3) arrP r_t15 rfl rfl (by omega) (fun _ _ => rfl) (fun i hi => putN_whole hi) ?_
                 intro w73 q gk
                 replace r_t5 := gb_rowIs r_t5 gk n_t5_t15
                 replace r_t6 := gb_rowIs r_t6 gk n_t6_t15
                 replace r_t9 := gb_rowIs r_t9 gk n_t9_t15
                 replace r_t11 := gb_rowIs r_t11 gk n_t11_t15
                 replace r_t12 := gb_rowIs r_t12 gk n_t12_t15
                 replace r_t15 := q
                 have Bw29 := zbg HGS Bw28 gk l_t15
                 replace f_s42 := gb_bs f_s42 gk a_s42_t15
                 replace f_s80 := gb_bs f_s80 gk a_s80_t15
                 clear Bw28 gk q))
            clear f_s42
            go_wp2
            have Bw30 := Bw29.drew
            replace r_t5 := World.rowIs.drew r_t5
            replace r_t6 := World.rowIs.drew r_t6
            replace r_t9 := World.rowIs.drew r_t9
            replace r_t11 := World.rowIs.drew r_t11
            replace r_t12 := World.rowIs.drew r_t12
            replace r_t15 := World.rowIs.drew r_t15
            replace f_s80 := Bs.drew f_s80
            clear Bw29
            refine zpo [] (.rd 0 (.rd 1 (.rd 2 .done))) #[true, true, true, false, false, false, false, false, false, false, false, false, false, false, false, false, false, false, false, false, false, false, false, false, false, false, false, false] [3, 4, 5, 6, 7, 8, 9, 10, 11, 12, 13, 14, 15, 16, 17, 18, 19, 20, 21, 22, 23, 24, 25, 26, 27] [some 92, some 93, some 94, some 95, some 96, some 97, some 98, some 99, some 100, some 101, some 102, some 103, some 104, some 105, some 106, some 107, some 108, some 109, some 110, some 111, some 112, some 113, some 114, some 115, some 116] [[], [0], [1], [2], [3], [3, 4], [3, 5], [3, 6], [7], [7, 8], [7, 9], [7, 10], [11], [11, 12], [11], [11, 14], [11, 13, 15], [11, 16], [11, 17], [18], [18], [18, 20], [18, 19, 21], [18, 22], [18, 23]] [(0, []), (1, [0]), (2, [1]), (3, [2]), (4, [3, 2]), (5, [2, 4]), (6, [5, 2]), (7, [6]), (8, [7, 6]), (9, [6, 8]), (10, [9, 6]), (11, [10]), (12, [11, 10]), (13, [10, 12]), (14, [13, 10]), (15, [14]), (16, [15, 14]), (17, [14]), (18, [17, 14]), (19, [16, 18, 14]), (20, [14, 19]), (21, [20, 14]), (22, [21]), (23, [21]), (24, [23, 21, 21]), (25, [22, 24, 24, 21]), (26, [25, 21]), (27, [21, 26])] 7 ?_
            refine zmv (.int .i64 0) rfl rfl rfl rfl rfl ?_
            simp only [Act.put, zA, zB, zC]
            refine lintz_pure 90 (Op.binOp BinOp.neq 37 (Operand.tmp 89) (Operand.const (Value.int IntKind.i64 0)) 37) 4 (.bool false) rfl rfl rfl rfl rfl (fun w0 hb => by exact x_neqE rfl rfl _) ?_
            simp only [Act.put, zA, zB, zC]
            refine zmv (.bool false) rfl rfl rfl rfl rfl ?_
            simp only [Act.put, zA, zB, zC]
            refine lintz_leaf ?_
            refine po_start [.val (.int .i64 0), .val (.bool false), .val (.bool false), .val (.bool false), .val (.int .i64 0), .val (.bool false), .val (.bool false), .val (.bool false), .val (.int .i64 0), .val (.bool false), .val (.bool false), .val (.bool false), .val (v_s80), .val (.int .i64 ((lp).length : Int)), .val (.int .i64 (D : Int)), .val (.int .i64 (LL : Int)), .val (.bool false), .val (.bool false), .val (.bool false), .val (.agg (arrOf 256 (pyF F3))), .val (.agg (arrOf 256 (pyF c))), .val (.agg (arrOf 256 (pyF c))), .val (.bool true), .val (.bool false), .val (.bool false)] [] (fun i hi => absurd hi (Nat.not_lt_zero _)) (fun HWF m gz wa p az hp hm hmp hcl hdn hE hJ hS hO => ?_) (fun gz wa hE hJ => ?_)
            · rcases (show p = 0 ∨ p = 1 ∨ p = 2 ∨ p = 3 ∨ p = 4 ∨ p = 5 ∨ p = 6 ∨ p = 7 ∨ p = 8 ∨ p = 9 ∨ p = 10 ∨ p = 11 ∨ p = 12 ∨ p = 13 ∨ p = 14 ∨ p = 15 ∨ p = 16 ∨ p = 17 ∨ p = 18 ∨ p = 19 ∨ p = 20 ∨ p = 21 ∨ p = 22 ∨ p = 23 ∨ p = 24 by have h9 : p < 25 := hp; omega) with rfl | rfl | rfl | rfl | rfl | rfl | rfl | rfl | rfl | rfl | rfl | rfl | rfl | rfl | rfl | rfl | rfl | rfl | rfl | rfl | rfl | rfl | rfl | rfl | rfl
              · have e91 : az.eval (.tmp 91) = .bool false := hO 91 rfl
                have e10 : az.eval (.tmp 10) = .int .i64 0 := hO 10 rfl
                exact po_p _ HWF hJ hE rfl rfl rfl rfl rfl rfl (wanted_of rfl rfl e91) (x_move e10)
              · have e91 : az.eval (.tmp 91) = .bool false := hO 91 rfl
                exact po_p _ HWF hJ hE rfl rfl rfl rfl rfl rfl (wanted_of rfl rfl e91) (x_neqE (po_e hS hdn hJ 0 92 rfl rfl rfl rfl) (eval_const _ _) _)
              · have e91 : az.eval (.tmp 91) = .bool false := hO 91 rfl
                have e93 := po_e hS hdn hJ 1 93 rfl rfl rfl rfl
                exact po_p (Op.pick (Operand.tmp 91) (Operand.const (Value.bool true)) (Operand.tmp 93)) HWF hJ hE rfl rfl rfl rfl rfl rfl rfl (by first | (simp only [execOp, mkOp, eval_const, e91, e93]; done) | (simp only [execOp, mkOp, eval_const, e91, e93]; go_simp))
              · exact po_p _ HWF hJ hE rfl rfl rfl rfl rfl rfl rfl (x_move (po_e hS hdn hJ 2 94 rfl rfl rfl rfl))
              · have e14 : az.eval (.tmp 14) = .int .i64 0 := hO 14 rfl
                exact po_p _ HWF hJ hE rfl rfl rfl rfl rfl rfl (wanted_of rfl rfl (po_e hS hdn hJ 3 95 rfl rfl rfl rfl)) (x_move e14)
              · exact po_p _ HWF hJ hE rfl rfl rfl rfl rfl rfl (wanted_of rfl rfl (po_e hS hdn hJ 3 95 rfl rfl rfl rfl)) (x_neqE (po_e hS hdn hJ 4 96 rfl rfl rfl rfl) (eval_const _ _) _)
              · have e95 := po_e hS hdn hJ 3 95 rfl rfl rfl rfl
                have e97 := po_e hS hdn hJ 5 97 rfl rfl rfl rfl
                exact po_p (Op.pick (Operand.tmp 95) (Operand.const (Value.bool true)) (Operand.tmp 97)) HWF hJ hE rfl rfl rfl rfl rfl rfl rfl (by first | (simp only [execOp, mkOp, eval_const, e95, e97]; done) | (simp only [execOp, mkOp, eval_const, e95, e97]; go_simp))
              · exact po_p _ HWF hJ hE rfl rfl rfl rfl rfl rfl rfl (x_move (po_e hS hdn hJ 6 98 rfl rfl rfl rfl))
              · have e16 : az.eval (.tmp 16) = .int .i64 0 := hO 16 rfl
                exact po_p _ HWF hJ hE rfl rfl rfl rfl rfl rfl (wanted_of rfl rfl (po_e hS hdn hJ 7 99 rfl rfl rfl rfl)) (x_move e16)
              · exact po_p _ HWF hJ hE rfl rfl rfl rfl rfl rfl (wanted_of rfl rfl (po_e hS hdn hJ 7 99 rfl rfl rfl rfl)) (x_neqE (po_e hS hdn hJ 8 100 rfl rfl rfl rfl) (eval_const _ _) _)
              · have e99 := po_e hS hdn hJ 7 99 rfl rfl rfl rfl
                have e101 := po_e hS hdn hJ 9 101 rfl rfl rfl rfl
                exact po_p (Op.pick (Operand.tmp 99) (Operand.const (Value.bool true)) (Operand.tmp 101)) HWF hJ hE rfl rfl rfl rfl rfl rfl rfl (by first | (simp only [execOp, mkOp, eval_const, e99, e101]; done) | (simp only [execOp, mkOp, eval_const, e99, e101]; go_simp))
              · exact po_p _ HWF hJ hE rfl rfl rfl rfl rfl rfl rfl (x_move (po_e hS hdn hJ 10 102 rfl rfl rfl rfl))
              · have e13 : az.eval (.tmp 13) = v_s80 := hO 13 rfl
                exact po_p _ HWF hJ hE rfl rfl rfl rfl rfl rfl (wanted_of rfl rfl (po_e hS hdn hJ 11 103 rfl rfl rfl rfl)) (x_move e13)
              · exact po_p _ HWF hJ hE rfl rfl rfl rfl rfl rfl (wanted_of rfl rfl (po_e hS hdn hJ 11 103 rfl rfl rfl rfl)) (exec_blen _ _ (po_e hS hdn hJ 12 104 rfl rfl rfl rfl) (Bs.below f_s80 (Keep.nil hE) (Nat.le_refl _)))
              · have e1 : az.eval (.tmp 1) = .int .i64 (D : Int) := hO 1 rfl
                exact po_p _ HWF hJ hE rfl rfl rfl rfl rfl rfl (wanted_of rfl rfl (po_e hS hdn hJ 11 103 rfl rfl rfl rfl)) (x_move e1)
              · exact po_p _ HWF hJ hE rfl rfl rfl rfl rfl rfl (wanted_of rfl rfl (po_e hS hdn hJ 11 103 rfl rfl rfl rfl)) (x_mulI (eval_const _ _) (po_e hS hdn hJ 14 106 rfl rfl rfl rfl) HWL.out _)
              · exact po_p _ HWF hJ hE rfl rfl rfl rfl rfl rfl (wanted_of rfl rfl (po_e hS hdn hJ 11 103 rfl rfl rfl rfl)) (x_neqI (po_e hS hdn hJ 13 105 rfl rfl rfl rfl) (po_e hS hdn hJ 15 107 rfl rfl rfl rfl) HLL.out _)
              · have e103 := po_e hS hdn hJ 11 103 rfl rfl rfl rfl
                have e108 := po_e hS hdn hJ 16 108 rfl rfl rfl rfl
                exact po_p (Op.pick (Operand.tmp 103) (Operand.const (Value.bool true)) (Operand.tmp 108)) HWF hJ hE rfl rfl rfl rfl rfl rfl rfl (by first | (simp only [execOp, mkOp, eval_const, e103, e108]; done) | (simp only [execOp, mkOp, eval_const, e103, e108]; go_simp))
              · exact po_p _ HWF hJ hE rfl rfl rfl rfl rfl rfl rfl (x_move (po_e hS hdn hJ 17 109 rfl rfl rfl rfl))
              · have e15 : az.eval (.tmp 15) = .pointer (some ⟨b_t15, 0, none⟩) := hO 15 rfl
                exact po_p _ HWF hJ hE rfl rfl rfl rfl rfl rfl (wanted_of rfl rfl (po_e hS hdn hJ 18 110 rfl rfl rfl rfl)) (exec_load_as _ _ _ _ (pyF F3) e15 arrP (Keep.row hE r_t15 rfl) (by omega) (fun i hi => by rw [Nat.zero_add]))
              · have e11 : az.eval (.tmp 11) = .pointer (some ⟨b_t11, 0, none⟩) := hO 11 rfl
                exact po_p _ HWF hJ hE rfl rfl rfl rfl rfl rfl (wanted_of rfl rfl (po_e hS hdn hJ 18 110 rfl rfl rfl rfl)) (exec_load_as _ _ _ _ (pyF c) e11 arrP (Keep.row hE r_t11 rfl) (by omega) (fun i hi => by rw [Nat.zero_add]))
              · exact po_k HWF hJ hE (f2_any c _) rfl rfl rfl rfl rfl (wanted_of rfl rfl (po_e hS hdn hJ 18 110 rfl rfl rfl rfl)) (ar1 (po_e hS hdn hJ 20 112 rfl rfl rfl rfl))
              · exact po_k HWF hJ hE (is_yes F3 c _ (HF3.out)) rfl rfl rfl rfl rfl (wanted_of rfl rfl (po_e hS hdn hJ 18 110 rfl rfl rfl rfl)) (ar2 (po_e hS hdn hJ 19 111 rfl rfl rfl rfl) (po_e hS hdn hJ 21 113 rfl rfl rfl rfl))
              · have e110 := po_e hS hdn hJ 18 110 rfl rfl rfl rfl
                have e114 := po_e hS hdn hJ 22 114 rfl rfl rfl rfl
                exact po_p (Op.unOp UnOp.not 4 (Operand.tmp 114)) HWF hJ hE rfl rfl rfl rfl rfl rfl (wanted_of rfl rfl e110) (by first | (simp only [execOp, mkOp, eval_const, e114]; done) | (simp only [execOp, mkOp, eval_const, e114]; go_simp))
              · have e110 := po_e hS hdn hJ 18 110 rfl rfl rfl rfl
                have e115 := po_e hS hdn hJ 23 115 rfl rfl rfl rfl
                exact po_p (Op.pick (Operand.tmp 110) (Operand.const (Value.bool true)) (Operand.tmp 115)) HWF hJ hE rfl rfl rfl rfl rfl rfl rfl (by first | (simp only [execOp, mkOp, eval_const, e110, e115]; done) | (simp only [execOp, mkOp, eval_const, e110, e115]; go_simp))
            · rw [putO_true _ _ _ _ _ rfl]
              simp only [putA, Nat.zero_add, Nat.reduceAdd]
              rw [hJ.tt 0 rfl, hJ.tt 1 rfl, hJ.tt 2 rfl, hJ.tt 3 rfl, hJ.tt 4 rfl, hJ.tt 5 rfl, hJ.tt 6 rfl, hJ.tt 7 rfl, hJ.tt 8 rfl, hJ.tt 9 rfl, hJ.tt 10 rfl, hJ.tt 11 rfl, hJ.tt 12 rfl, hJ.tt 13 rfl, hJ.tt 14 rfl, hJ.tt 15 rfl, hJ.tt 16 rfl, hJ.tt 17 rfl, hJ.tt 18 rfl, hJ.tt 19 rfl, hJ.tt 20 rfl, hJ.tt 21 rfl, hJ.tt 22 rfl, hJ.tt 23 rfl, hJ.tt 24 rfl]
              simp only [Act.put, zA, zB, zC]
              refine po_end ?_
              replace r_t5 := Keep.row hE r_t5 rfl
              replace r_t6 := Keep.row hE r_t6 rfl
              replace r_t9 := Keep.row hE r_t9 rfl
              replace r_t11 := Keep.row hE r_t11 rfl
              replace r_t12 := Keep.row hE r_t12 rfl
              replace r_t15 := Keep.row hE r_t15 rfl
              replace f_s80 := Bs.below f_s80 (Keep.nil hE) (Nat.le_refl _)
              have Bw31 := hE.below Bw30 (HGS.out _ Bw30) rfl
              clear Bw30 hE hJ 
              go_wp2
              go_loopw [17] (fun kv wr => ∃ k : Nat, k ≤ 256 ∧ kv = .int .i64 (k : Int) ∧ wr.rowIs b_t5 26 256 (pyF f) ∧ wr.rowIs b_t11 26 256 (pyF c) ∧ wr.rowIs b_t12 26 256 (pyF u) ∧ Below w.heap.size w wr) (fun kv _ => 256 - (intOf kv).toNat)
              case atStart => exact ⟨0, by omega, rfl, r_t5, r_t11, r_t12, Bw31⟩
              case round =>
                clear r_t5 r_t6 r_t9 r_t11 r_t12 r_t15 f_s80 Bw31
                obtain ⟨k, hk, rfl, r_t5, r_t11, r_t12, Bw⟩ := hrel
                by_cases hlt : k < 256
                · have hkI : 0 ≤ (k : Int) ∧ (k : Int) < 256 := by omega
                  have HKL := Lib.hid hlt
                  have HK1 : Hid (k + 1 ≤ 256) := Lib.hid hlt
                  obtain ⟨x, hx⟩ := nat_var (f k)
                  obtain ⟨y, hy⟩ := nat_var (u k)
                  obtain ⟨z, hz⟩ := nat_var (c k)
                  have hxl : x < 3329 := by rw [hx]; exact HAf.out k hlt
                  have hyl : y < 65536 := by rw [hy]; exact HUL.out k
                  have hzl : z < 65536 := by rw [hz]; exact HCC.out k
                  have hzP : z < PD := by rw [hz, HPD.out]; exact HCL.out k
                  have HZL := Lib.hid hzl
                  have HZP : Hid ((z : Int) < (PD : Int)) := Lib.hid (by omega)
                  obtain ⟨N, hN⟩ := nat_var ((y + 3329 - x) % 3329)
                  obtain ⟨DD, hDD⟩ : ∃ i : Int, i = (y : Int) - (x : Int) := ⟨_, rfl⟩
                  have HWD : Hid (IntKind.i64.wrap ((y : Int) - (x : Int)) = DD) := Lib.hid (by rw [hDD]; exact IntWalk.i64_in _ (by omega))
                  have hwf : (Lit.int .i64 DD).wf = true := by
                    unfold Lit.wf
                    simp only [Bool.and_eq_true, decide_eq_true_eq]
                    exact ⟨show (-9223372036854775808 : Int) ≤ DD by omega, show DD ≤ (9223372036854775807 : Int) by omega⟩
                  have HRO : Hid (∀ W : World, Calls Try.prog 34 #[.int .i64 DD, .int .i64 3329] W fun e w' => e = .returned (.int .i64 (N : Int)) ∧ Below W.heap.size W w') := Lib.hid fun W => (roundI_any DD 3329 (N : Int) W hwf (by decide) (by decide) (by omega)).mono fun e w' h => ⟨h.1, by rw [h.2]; exact Below.refl _ _⟩
                  obtain ⟨N2, hN2⟩ := nat_var (3329 - N)
                  have hwN : IntKind.i64.wrap (3329 - (N : Int)) = (N2 : Int) := by rw [IntWalk.i64_in _ (by omega)]; omega
                  obtain ⟨M, hM⟩ := nat_var (min N N2)
                  have HMI : Hid ((M : Int) = if (N2 : Int) < (N : Int) then (N2 : Int) else (N : Int)) := Lib.hid (by
                    by_cases h : N2 < N
                    · rw [if_pos (by omega), hM, Nat.min_eq_right (by omega)]
                    · rw [if_neg (by omega), hM, Nat.min_eq_left (by omega)])
                  have HMB : Hid ((M : Int) ≤ (B : Int)) := Lib.hid (by
                    have h := HNEAR.out k hlt
                    rw [← hy, ← hx, ← hN, ← hN2, ← hM, ← HBV.out] at h
                    omega)
                  have HX0 := Lib.hid hx.symm
                  have HY0 := Lib.hid hy.symm
                  have HZ0 := Lib.hid hz.symm
                  have HXL : Hid (x < 65536) := Lib.hid (by omega)
                  have HYL := Lib.hid hyl
                  clear hx hy hz hxl hyl hzl hzP hN hDD hwf hN2 hM hlt
                  go_wp2
                  have Bw600 := Bw
                  clear Bw
                  have Bw601 := Bw600.drew
                  replace r_t5 := World.rowIs.drew r_t5
                  replace r_t11 := World.rowIs.drew r_t11
                  replace r_t12 := World.rowIs.drew r_t12
                  clear Bw600
                  refine wp_region_lint (.rd 0 (.rd 1 (.rd 2 (.rd 3 (.rd 4 (.rd 5 (.rd 6 (.rd 7 (.rd 8 (.wr 9 (.rd 10 .done))))))))))) (by kernel_rfl) (by kernel_rfl) (by decide) (by kernel_rfl) (fun d _ _ _ _ h => by cases d <;> exact h) ?_
                  refine lint_pure 121 (Op.move (Operand.tmp 17)) 3 (.int .i64 (k : Int)) rfl rfl rfl rfl rfl (fun w0 hb0 => by unfold mkOp; go_simp; all_goals (with_reducible rfl)) ?_
                  simp only [Act.put, zA, zB, zC]
                  refine lint_pure 122 (Op.indexAddr 26 (Operand.tmp 12) (Operand.tmp 121)) 0 (.pointer (some ⟨b_t12, k, none⟩)) rfl rfl rfl rfl rfl (fun w0 hb0 => by exact x_ia rfl rfl HKL.out _) ?_
                  simp only [Act.put, zA, zB, zC]
                  refine lint_pure 123 (Op.load 24 (Operand.tmp 122)) 24 (.int .u16 (y : Int)) rfl rfl rfl rfl rfl (fun w0 hb0 => by exact x_ld rfl (World.rowIs.of_block r_t12 (hb0.block _ (World.rowIs.lt r_t12))) HKL.out HY0.out) ?_
                  simp only [Act.put, zA, zB, zC]
                  refine lint_pure 124 (Op.convert 24 3 (Operand.tmp 123)) 3 (.int .i64 (y : Int)) rfl rfl rfl rfl rfl (fun w0 hb0 => by exact x_cv rfl HYL.out _) ?_
                  simp only [Act.put, zA, zB, zC]
                  refine lint_pure 125 (Op.move (Operand.tmp 17)) 3 (.int .i64 (k : Int)) rfl rfl rfl rfl rfl (fun w0 hb0 => by unfold mkOp; go_simp; all_goals (with_reducible rfl)) ?_
                  simp only [Act.put, zA, zB, zC]
                  refine lint_pure 126 (Op.indexAddr 26 (Operand.tmp 5) (Operand.tmp 125)) 0 (.pointer (some ⟨b_t5, k, none⟩)) rfl rfl rfl rfl rfl (fun w0 hb0 => by exact x_ia rfl rfl HKL.out _) ?_
                  simp only [Act.put, zA, zB, zC]
                  refine lint_pure 127 (Op.load 24 (Operand.tmp 126)) 24 (.int .u16 (x : Int)) rfl rfl rfl rfl rfl (fun w0 hb0 => by exact x_ld rfl (World.rowIs.of_block r_t5 (hb0.block _ (World.rowIs.lt r_t5))) HKL.out HX0.out) ?_
                  simp only [Act.put, zA, zB, zC]
                  refine lint_pure 128 (Op.convert 24 3 (Operand.tmp 127)) 3 (.int .i64 (x : Int)) rfl rfl rfl rfl rfl (fun w0 hb0 => by exact x_cv rfl HXL.out _) ?_
                  simp only [Act.put, zA, zB, zC]
                  refine lint_pure 129 (Op.binOp BinOp.sub 3 (Operand.tmp 124) (Operand.tmp 128) 3) 3 (.int .i64 DD) rfl rfl rfl rfl rfl (fun w0 hb0 => by exact x_sub rfl rfl HWD.out _) ?_
                  simp only [Act.put, zA, zB, zC]
                  refine stp_fn 130 34 #[Operand.tmp 129, Operand.const (Value.int IntKind.i64 3329)] #[3, 3] _ (HRO.out _) rfl rfl rfl rfl Try.func34 (by kernel_rfl) (by kernel_rfl) (by go_simp) ?_
                  rintro e w601 ⟨rfl, kk⟩
                  refine ⟨_, rfl, kk, ?_⟩
                  replace r_t5 := zrb r_t5 kk
                  replace r_t11 := zrb r_t11 kk
                  replace r_t12 := zrb r_t12 kk
                  have Bw602 := zbt HGS Bw601 kk
                  clear Bw601 kk
                  simp only [Act.put, zA, zB, zC]
                  refine lint_pure 18 (Op.assign (Operand.tmp 130)) 3 (.int .i64 (N : Int)) rfl rfl rfl rfl rfl (fun w0 hb0 => by unfold mkOp; go_simp; all_goals (with_reducible rfl)) ?_
                  simp only [Act.put, zA, zB, zC]
                  refine lint_end ?_
                  go_wp2_with (first
                    | (have hgo := HMI; clear hgo
                       refine wpList_minI rfl (.tmp 131) (.tmp 133) rfl rfl rfl HMI.out ?_
                       clear HMI))
                  have Bw603 := Bw602.drew
                  replace r_t5 := World.rowIs.drew r_t5
                  replace r_t11 := World.rowIs.drew r_t11
                  replace r_t12 := World.rowIs.drew r_t12
                  clear Bw602
                  refine wp_region_lint (.rd 0 (.rd 1 (.rd 2 (.rd 3 (.rd 4 (.rd 5 (.rd 6 (.rd 7 (.rd 8 (.rd 9 (.rd 10 (.rd 11 (.rd 12 (.rd 13 (.rd 14 (.rd 15 (.rd 16 (.rd 17 (.rd 18 .done))))))))))))))))))) (by kernel_rfl) (by kernel_rfl) (by decide) (by kernel_rfl) (fun d _ _ _ _ h => by cases d <;> exact h) ?_
                  refine lint_pure 135 (Op.move (Operand.tmp 18)) 3 (.int .i64 (M : Int)) rfl rfl rfl rfl rfl (fun w0 hb0 => by unfold mkOp; go_simp; all_goals (with_reducible rfl)) ?_
                  simp only [Act.put, zA, zB, zC]
                  refine lint_pure 136 (Op.move (Operand.tmp 1)) 3 (.int .i64 (D : Int)) rfl rfl rfl rfl rfl (fun w0 hb0 => by unfold mkOp; go_simp; all_goals (with_reducible rfl)) ?_
                  simp only [Act.put, zA, zB, zC]
                  refine lint_pure 137 (Op.binOp BinOp.add 3 (Operand.tmp 136) (Operand.const (Value.int IntKind.i64 1)) 3) 3 (.int .i64 (e1 : Int)) rfl rfl rfl rfl rfl (fun w0 hb0 => by exact x_add rfl rfl HWE.out _) ?_
                  simp only [Act.put, zA, zB, zC]
                  refine lint_pure 138 (Op.binOp BinOp.shl 3 (Operand.const (Value.int IntKind.i64 1)) (Operand.tmp 137) 3) 3 (.int .i64 (Q : Int)) rfl rfl rfl rfl rfl (fun w0 hb0 => by exact x_shl1 rfl rfl HE1.out.1 HQ.out _) ?_
                  simp only [Act.put, zA, zB, zC]
                  refine lint_pure 139 (Op.binOp BinOp.add 3 (Operand.const (Value.int IntKind.i64 3329)) (Operand.tmp 138) 3) 3 (.int .i64 (s1 : Int)) rfl rfl rfl rfl rfl (fun w0 hb0 => by exact x_add rfl rfl HS1.out _) ?_
                  simp only [Act.put, zA, zB, zC]
                  refine lint_pure 140 (Op.binOp BinOp.sub 3 (Operand.tmp 139) (Operand.const (Value.int IntKind.i64 1)) 3) 3 (.int .i64 (s2 : Int)) rfl rfl rfl rfl rfl (fun w0 hb0 => by exact x_sub rfl rfl HS2.out _) ?_
                  simp only [Act.put, zA, zB, zC]
                  refine lint_pure 141 (Op.move (Operand.tmp 1)) 3 (.int .i64 (D : Int)) rfl rfl rfl rfl rfl (fun w0 hb0 => by unfold mkOp; go_simp; all_goals (with_reducible rfl)) ?_
                  simp only [Act.put, zA, zB, zC]
                  refine lint_pure 142 (Op.binOp BinOp.add 3 (Operand.tmp 141) (Operand.const (Value.int IntKind.i64 1)) 3) 3 (.int .i64 (e1 : Int)) rfl rfl rfl rfl rfl (fun w0 hb0 => by exact x_add rfl rfl HWE.out _) ?_
                  simp only [Act.put, zA, zB, zC]
                  refine lint_pure 143 (Op.binOp BinOp.shr 3 (Operand.tmp 140) (Operand.tmp 142) 3) 3 (.int .i64 (B : Int)) rfl rfl rfl rfl rfl (fun w0 hb0 => by exact x_shrI rfl rfl HE1.out.1 HE1.out.2.2 HB.out _) ?_
                  simp only [Act.put, zA, zB, zC]
                  refine lint_pure 144 (Op.binOp BinOp.gtr 3 (Operand.tmp 135) (Operand.tmp 143) 3) 4 (.bool false) rfl rfl rfl rfl rfl (fun w0 hb0 => by exact x_gtr rfl rfl HMB.out _) ?_
                  simp only [Act.put, zA, zB, zC]
                  refine lint_pure 145 (Op.move (Operand.tmp 144)) 4 (.bool false) rfl rfl rfl rfl rfl (fun w0 hb0 => by unfold mkOp; go_simp; all_goals (with_reducible rfl)) ?_
                  simp only [Act.put, zA, zB, zC]
                  refine lint_pure 146 (Op.move (Operand.tmp 17)) 3 (.int .i64 (k : Int)) rfl rfl rfl rfl rfl (fun w0 hb0 => by unfold mkOp; go_simp; all_goals (with_reducible rfl)) ?_
                  simp only [Act.put, zA, zB, zC]
                  refine lint_pure 147 (Op.indexAddr 26 (Operand.tmp 11) (Operand.tmp 146)) 0 (.pointer (some ⟨b_t11, k, none⟩)) rfl rfl rfl rfl rfl (fun w0 hb0 => by exact x_ia rfl rfl HKL.out _) ?_
                  simp only [Act.put, zA, zB, zC]
                  refine lint_pure 148 (Op.load 24 (Operand.tmp 147)) 24 (.int .u16 (z : Int)) rfl rfl rfl rfl rfl (fun w0 hb0 => by exact x_ld rfl (World.rowIs.of_block r_t11 (hb0.block _ (World.rowIs.lt r_t11))) HKL.out HZ0.out) ?_
                  simp only [Act.put, zA, zB, zC]
                  refine lint_pure 149 (Op.convert 24 3 (Operand.tmp 148)) 3 (.int .i64 (z : Int)) rfl rfl rfl rfl rfl (fun w0 hb0 => by exact x_cv rfl HZL.out _) ?_
                  simp only [Act.put, zA, zB, zC]
                  refine lint_pure 150 (Op.move (Operand.tmp 1)) 3 (.int .i64 (D : Int)) rfl rfl rfl rfl rfl (fun w0 hb0 => by unfold mkOp; go_simp; all_goals (with_reducible rfl)) ?_
                  simp only [Act.put, zA, zB, zC]
                  refine lint_pure 151 (Op.binOp BinOp.shl 3 (Operand.const (Value.int IntKind.i64 1)) (Operand.tmp 150) 3) 3 (.int .i64 (PD : Int)) rfl rfl rfl rfl rfl (fun w0 hb0 => by exact x_shl1 rfl rfl HE1.out.2.1 HPD.out _) ?_
                  simp only [Act.put, zA, zB, zC]
                  refine lint_pure 152 (Op.binOp BinOp.geq 3 (Operand.tmp 149) (Operand.tmp 151) 3) 4 (.bool false) rfl rfl rfl rfl rfl (fun w0 hb0 => by exact x_geq rfl rfl HZP.out _) ?_
                  simp only [Act.put, zA, zB, zC]
                  refine lint_pure 153 (Op.pick (Operand.tmp 145) (Operand.const (Value.bool true)) (Operand.tmp 152)) 4 (.bool false) rfl rfl rfl rfl rfl (fun w0 hb0 => by unfold mkOp; go_simp; all_goals (with_reducible rfl)) ?_
                  simp only [Act.put, zA, zB, zC]
                  refine lint_end ?_
                  go_wp2
                  go_roundw
                  case rel => exact ⟨k + 1, HK1.out, by go_num, r_t5, r_t11, r_t12, Bw603⟩
                  case measure => (have := HK1.out; simp [intOf]; try omega)
                · obtain rfl : k = 256 := by omega
                  go_wp2_with (first | (go_at_call 9; refine (awake10_any _).mono ?_; rintro e w9 ⟨rfl, kk⟩))
                  go_ret
                  exact ⟨rfl, zbt HGS Bw kk⟩
        · have hma : mayN f = false := by simpa using hm0
          rw [hma] at HMf HNf
          clear hma hm0
          go_enter Try.func6, Try.ntmps6
          go_wp2_with (first
            | (have hgo := Bw0; clear hgo
               go_at_call 10
               refine (HP0.out _ Bw0).mono ?_
               rintro e w2 ⟨rfl, kk⟩
               have Bw1 := zbt HGS Bw0 kk
               clear Bw0 kk)
            | (have hgo := Bw1; clear hgo
               refine wpList_alloc_row rfl 26 rfl 256 (pyF fun _ => 0) zeroP ?_
               intro b_t5 w6 lk r_t5 kk
               have l_t5 := zrl HGS Bw1 lk
               have Bw2 := zbt HGS Bw1 kk
               clear Bw1 kk lk)
            | (have hgo := Bw2; clear hgo
               refine wpList_alloc_row rfl 27 rfl 256 (pyF fun _ => 0) zeroPy ?_
               intro b_t6 w7 lk r_t6 kk
               have n_t5_t6 := zrn r_t5 lk
               have l_t6 := zrl HGS Bw2 lk
               replace r_t5 := zrb r_t5 kk
               have Bw3 := zbt HGS Bw2 kk
               clear Bw2 kk lk)
            | (have hgo := Bw3; clear hgo
               refine wpList_store_as rfl 26 (.tmp 5) (.tmp 34) rfl 256 (pyF f) arrP r_t5 rfl rfl (by omega) (fun _ _ => rfl) (fun i hi => putN_whole hi) ?_
               intro w8 q gk
               replace r_t6 := gb_rowIs r_t6 gk (Ne.symm n_t5_t6)
               replace r_t5 := q
               have Bw4 := zbg HGS Bw3 gk l_t5
               clear Bw3 gk q)
            | (have hgo := Bw4; clear hgo
               refine wpList_store_as rfl 27 (.tmp 6) (.tmp 35) rfl 256 (pyF f) arrPy r_t6 rfl rfl (by omega) (fun _ _ => rfl) (fun i hi => putN_whole hi) ?_
               intro w9 q gk
               replace r_t5 := gb_rowIs r_t5 gk n_t5_t6
               replace r_t6 := q
               have Bw5 := zbg HGS Bw4 gk l_t6
               clear Bw4 gk q)
            | (have hgo := Bw5; clear hgo
               refine wpList_load_as rfl 27 (.tmp 6) rfl 256 (pyF f) arrPy r_t6 rfl (by omega) (fun i hi => by rw [Nat.zero_add]) ?_
               have Bw6 := Bw5
               clear Bw5)
            | (have hgo := Bw6; clear hgo
               go_at_call 12
               refine (HNf.out _).mono ?_
               rintro e w11 ⟨rfl, kk⟩
               replace r_t5 := zrb r_t5 kk
               replace r_t6 := zrb r_t6 kk
               have Bw7 := zbt HGS Bw6 kk
               clear Bw6 kk)
            | (have hgo := Bw7; clear hgo
               go_at_call 9
               refine (awake10_any _).mono ?_
               rintro e w13 ⟨rfl, kk⟩
               replace r_t5 := zrb r_t5 kk
               replace r_t6 := zrb r_t6 kk
               have Bw8 := zbt HGS Bw7 kk
               clear Bw7 kk))
          go_ret
          exact ⟨rfl, Bw8⟩
      · have q2 : (12 : Int) < x1 := by omega
        clear h0 hB0 e0 d0 d1 d2
        go_enter Try.func6, Try.ntmps6
        go_wp2_with (first | (go_at_call 9; refine (awake10_any _).mono ?_; rintro e w9 ⟨rfl, hb9⟩))
        go_ret
        exact ⟨rfl, hb9⟩
    · have q1 : x1 < 1 := by omega
      clear h0 hB0 e0 d0 d1
      go_enter Try.func6, Try.ntmps6
      go_wp2_with (first | (go_at_call 9; refine (awake10_any _).mono ?_; rintro e w9 ⟨rfl, hb9⟩))
      go_ret
      exact ⟨rfl, hb9⟩
  · have q0 : (256 : Int) < (n0 : Int) := by omega
    clear h0 hB0 e0 d0
    go_enter Try.func6, Try.ntmps6
    go_wp2_with (first | (go_at_call 9; refine (awake10_any _).mono ?_; rintro e w9 ⟨rfl, hb9⟩))
    go_ret
    exact ⟨rfl, hb9⟩
end Go.Proofs.Ytnpifjimmeehdaa
