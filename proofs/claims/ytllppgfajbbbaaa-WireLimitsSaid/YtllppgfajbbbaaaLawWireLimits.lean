/- WireLimits. -/
import Derived.Test.YtllppgfajbbbaaaMM2
namespace Go.Proofs.Ytllppgfajbbbaaa
open Go.RowKit Go.Deep
set_option linter.unusedSimpArgs false
set_option linter.unusedVariables false

theorem wbox_int {P : Program} {ops : Array Oper} {rest : List Oper} {o : Oper} {a : Act} {w : World} {Q : Exit → Act → World → Prop} (ty : TypeId) (x : Operand) (ho : o.op = .box ty x) (hgd : o.guard = none) {k : IntKind} {i : Int} (hx : a.eval x = .int k i)
    (h : ∀ b w', w.heap.size ≤ b → w'.rowIs b ty 1 (fun _ => .int k i) → Below w.heap.size w w' → wpList P ops Q rest (a.put o.dst (.pointer (some ⟨b, 0, none⟩))) w') : wpList P ops Q (o :: rest) a w :=
  wpList_plain hgd fun _ hK => by
    unfold Oper.wp execOp
    simp [ho, hx, Instr.box, newVar, newRow, newObj, Value.cells, Result.andThen]
    exact hK _ _ (h _ _ (Nat.le_refl _) (World.rowIs_alloc w #[.int k i] ty _ (fun j hj => by
      have hj' : j < 1 := hj
      obtain rfl : j = 0 := by omega
      rfl)) ((Below.refl _ _).alloc (Nat.le_refl _) _))
theorem num0 : numL7 0 = [0] := by decide +kernel
theorem rep_flat (n : Nat) : ((List.replicate n ([] : List UInt8)).map bytL).flatten = List.replicate n 0 := by
  have e : bytL [] = [0] := by
    unfold bytL
    rw [List.append_nil]
    exact num0
  induction n with
  | zero => rfl
  | succ n ih => rw [List.replicate_succ, List.map_cons, List.flatten_cons, ih, e, List.replicate_succ]; rfl
theorem rep_nil (n : Nat) : (List.replicate n ([] : List UInt8)).flatten = [] := by
  induction n with
  | zero => rfl
  | succ n ih => rw [List.replicate_succ, List.flatten_cons, ih]; rfl
theorem cut_b (blk : List UInt8) (n m : Nat) (h : blk.length = n) (hm : m + 1 = (bytL blk).length) (h1 : 1 ≤ n) : (bytL blk).take m = numL7 n ++ blk.take (n - 1) ∧ (blk.take (n - 1)).length < n := by
  unfold bytL at hm ⊢
  rw [h] at hm ⊢
  rw [List.length_append] at hm
  refine ⟨?_, by rw [List.length_take]; omega⟩
  rw [show m = (numL7 n).length + (n - 1) by omega, List.take_length_add_append]
theorem cut_c (n m : Nat) (hm : m + 1 = (numL7 (n + 1) ++ ((List.replicate (n + 1) ([] : List UInt8)).map bytL).flatten).length) : (numL7 (n + 1) ++ ((List.replicate (n + 1) ([] : List UInt8)).map bytL).flatten).take m = numL7 (n + 1) ++ ((List.replicate n ([] : List UInt8)).map bytL).flatten := by
  rw [List.length_append, rep_flat, List.length_replicate] at hm
  rw [rep_flat, rep_flat, show m = (numL7 (n + 1)).length + n by omega, List.take_length_add_append, List.take_replicate, Nat.min_eq_left (by omega)]
theorem numL7_pos (n : Nat) : 1 ≤ (numL7 n).length := by
  obtain ⟨B, R, h⟩ := ne_nil_head (f := 9) (x := n) (l := [])
  rw [List.append_nil] at h
  unfold numL7
  rw [h]
  simp
theorem rd1 (F : Nat) (fn : Func) (mb M : Nat) (want : Int) (w : World) (v : Value) (l : List UInt8) (hf : Try.prog.funcs[F]? = some fn) (hn : (fn.name == "runtime.NumGoroutine") = false) (hb : fn.body.isNone = false) (hv : Bs w v l) (hl : l.length ≤ 100000) (hm : w.rowIs mb 3 1 (fun _ => .int .i64 (M : Int)))
    (h : (want = 0 ∧ ∀ (O : Nat → Prop) (w1 : World) (r : Nat), rdAt O w1 r l → w1.rowIs mb 3 1 (fun _ => .int .i64 (M : Int)) → Calls Try.prog F #[.pointer (some ⟨r, 0, none⟩), .pointer (some ⟨mb, 0, none⟩)] w1 fun e w2 => e = .returned (.tuple #[]) ∧ True ∧ ∃ O', rdAt O' w2 r [] ∧ Sam (fun x => O x ∨ False) w1 w2 ∧ ∀ x, O' x → O x ∨ w1.heap.size ≤ x) ∨
      (want ≠ 0 ∧ ∀ (O : Nat → Prop) (w1 : World) (r : Nat), rdAt O w1 r l → w1.rowIs mb 3 1 (fun _ => .int .i64 (M : Int)) → Calls Try.prog F #[.pointer (some ⟨r, 0, none⟩), .pointer (some ⟨mb, 0, none⟩)] w1 fun e w2 => e = .panicked [{ v := .iface 37 (.int .i64 want), recovered := false }] ∧ True ∧ Sam (fun x => O x ∨ False) w1 w2)) :
    Calls Try.prog 12 #[v, .func (.func F) #[] #[.pointer (some ⟨mb, 0, none⟩)]] w fun e w' => e = .returned (.int .i64 want) ∧ Below w.heap.size w w' := by
  rcases h with ⟨rfl, h⟩ | ⟨h0, h⟩
  · refine (read_ok1 F fn #[.pointer (some ⟨mb, 0, none⟩)] [] rfl w v l (fun _ => False) (fun _ => True) hf hn hb hv (by omega) (fun x h => h.elim) (fun _ _ _ _ => trivial) (fun w1 O r hb1 hr1 ho1 => h O w1 r hr1 (zrb hm hb1))).mono ?_
    rintro e w' ⟨rfl, _, s⟩
    exact ⟨rfl, s.none⟩
  · refine (read_err F fn #[.pointer (some ⟨mb, 0, none⟩)] want h0 w v l (fun _ => False) (fun _ => True) hf hn hb hv (by omega) (fun x h => h.elim) (fun _ _ _ _ => trivial) (fun w1 O r hb1 hr1 ho1 => h O w1 r hr1 (zrb hm hb1))).mono ?_
    rintro e w' ⟨rfl, _, s⟩
    exact ⟨rfl, s.none⟩
set_option maxHeartbeats 4000000 in
set_option maxRecDepth 20000 in
theorem limits_o1 (n m : Int) (short : Bool) (w : World) (h1 : n < 0) : Calls Try.prog 6 #[.int .i64 n, .int .i64 m, .bool short] w fun e w' => e = .returned (.bool true) ∧ Below w.heap.size w w' := by
  have Bw0 := Below.refl w.heap.size w
  go_enter Try.func6, Try.ntmps6
  go_wp2_with (first
    | (have hgo := Bw0; clear hgo
       refine wbox_int 3 (.tmp 1) rfl rfl rfl ?_
       intro mb w1 lm r_m kk
       have Bw1 := kk
       clear Bw0 kk lm)
    | (refine wpList_loadG 3 (.tmp 4) rfl rfl (.int .i64 m) r_m rfl (by omega) rfl (by kernel_rfl) ?_)
    | (have hgo := Bw1; clear hgo
       go_at_call 8
       refine (awake14_any _).mono ?_
       rintro e w2 ⟨rfl, kk⟩
       have Bw2 := Bw1.trans (kk.mono Bw1.size)
       clear Bw1 kk))
  go_ret
  exact ⟨rfl, Bw2⟩
set_option maxHeartbeats 4000000 in
set_option maxRecDepth 20000 in
theorem limits_o2 (n m : Int) (short : Bool) (w : World) (h1 : ¬ n < 0) (h2 : 300 < n) : Calls Try.prog 6 #[.int .i64 n, .int .i64 m, .bool short] w fun e w' => e = .returned (.bool true) ∧ Below w.heap.size w w' := by
  have Bw0 := Below.refl w.heap.size w
  go_enter Try.func6, Try.ntmps6
  go_wp2_with (first
    | (have hgo := Bw0; clear hgo
       refine wbox_int 3 (.tmp 1) rfl rfl rfl ?_
       intro mb w1 lm r_m kk
       have Bw1 := kk
       clear Bw0 kk lm)
    | (refine wpList_loadG 3 (.tmp 4) rfl rfl (.int .i64 m) r_m rfl (by omega) rfl (by kernel_rfl) ?_)
    | (have hgo := Bw1; clear hgo
       go_at_call 8
       refine (awake14_any _).mono ?_
       rintro e w2 ⟨rfl, kk⟩
       have Bw2 := Bw1.trans (kk.mono Bw1.size)
       clear Bw1 kk))
  go_ret
  exact ⟨rfl, Bw2⟩
set_option maxHeartbeats 4000000 in
set_option maxRecDepth 20000 in
theorem limits_o3 (n m : Int) (short : Bool) (w : World) (h1 : ¬ n < 0) (h2 : ¬ 300 < n) (h3 : m < 0) : Calls Try.prog 6 #[.int .i64 n, .int .i64 m, .bool short] w fun e w' => e = .returned (.bool true) ∧ Below w.heap.size w w' := by
  have Bw0 := Below.refl w.heap.size w
  go_enter Try.func6, Try.ntmps6
  go_wp2_with (first
    | (have hgo := Bw0; clear hgo
       refine wbox_int 3 (.tmp 1) rfl rfl rfl ?_
       intro mb w1 lm r_m kk
       have Bw1 := kk
       clear Bw0 kk lm)
    | (refine wpList_loadG 3 (.tmp 4) rfl rfl (.int .i64 m) r_m rfl (by omega) rfl (by kernel_rfl) ?_)
    | (have hgo := Bw1; clear hgo
       go_at_call 8
       refine (awake14_any _).mono ?_
       rintro e w2 ⟨rfl, kk⟩
       have Bw2 := Bw1.trans (kk.mono Bw1.size)
       clear Bw1 kk))
  go_ret
  exact ⟨rfl, Bw2⟩
set_option maxHeartbeats 4000000 in
set_option maxRecDepth 20000 in
theorem limits_o4 (n m : Int) (short : Bool) (w : World) (h1 : ¬ n < 0) (h2 : ¬ 300 < n) (h3 : ¬ m < 0) (h4 : 300 < m) : Calls Try.prog 6 #[.int .i64 n, .int .i64 m, .bool short] w fun e w' => e = .returned (.bool true) ∧ Below w.heap.size w w' := by
  have Bw0 := Below.refl w.heap.size w
  go_enter Try.func6, Try.ntmps6
  go_wp2_with (first
    | (have hgo := Bw0; clear hgo
       refine wbox_int 3 (.tmp 1) rfl rfl rfl ?_
       intro mb w1 lm r_m kk
       have Bw1 := kk
       clear Bw0 kk lm)
    | (refine wpList_loadG 3 (.tmp 4) rfl rfl (.int .i64 m) r_m rfl (by omega) rfl (by kernel_rfl) ?_)
    | (have hgo := Bw1; clear hgo
       go_at_call 8
       refine (awake14_any _).mono ?_
       rintro e w2 ⟨rfl, kk⟩
       have Bw2 := Bw1.trans (kk.mono Bw1.size)
       clear Bw1 kk))
  go_ret
  exact ⟨rfl, Bw2⟩
set_option maxHeartbeats 4000000 in
set_option maxRecDepth 20000 in
theorem limits_z0 (N M : Nat) (w : World) (hN : N ≤ 300) (hM : M ≤ 300) (hz : N = 0) : Calls Try.prog 6 #[.int .i64 (N : Int), .int .i64 (M : Int), .bool false] w fun e w' => e = .returned (.bool true) ∧ Below w.heap.size w w' := by
  have g1 : ¬ (N : Int) < 0 := by omega
  have g2 : ¬ (300 : Int) < (N : Int) := by omega
  have g3 : ¬ (M : Int) < 0 := by omega
  have g4 : ¬ (300 : Int) < (M : Int) := by omega
  have hmf : ∀ (fn : Fn) (first cap : Array Value) (w : World), (Instr.makeFunc fn first cap).run Try.prog w = .ok (.func fn first cap) w := fun _ _ _ _ => rfl
  have g5 : ((N : Int) == 0) = true := by simp; omega
  have g6 : ¬ (M : Int) < (N : Int) := by omega
  have HN := Lib.hid (And.intro hN (And.intro hM hz))
  have Bw0 := Below.refl w.heap.size w
  have HGS : Hid (∀ wq : World, Below w.heap.size w wq → w.heap.size ≤ wq.heap.size) := Lib.hid fun wq h => h.size
  clear hN hM hz
  go_enter Try.func6, Try.ntmps6
  go_wp2_with (first
    | (have hgo := Bw0; clear hgo
       refine wbox_int 3 (.tmp 1) rfl rfl rfl ?_
       intro mb w1 lm r_m kk
       have RM0 := Lib.hid r_m.lt
       have Bw1 := kk
       clear Bw0 kk lm)
    | (refine wpList_loadG 3 (.tmp 4) rfl rfl (.int .i64 (M : Int)) r_m rfl (by omega) rfl (by kernel_rfl) ?_)
    | (have hgo := Bw1; clear hgo
       refine wpList_alloc_W rfl rfl ?_
       intro y1 w2 ly hW1 kk
       have HM1 : Hid (¬ mb = y1) := Lib.hid (by have := r_m.lt; omega)
       replace r_m := zrb r_m kk
       have LY1 := Lib.hid (Nat.le_trans Bw1.size ly)
       have HW1 := Lib.hid hW1
       have Bw2 := zbt HGS Bw1 kk
       clear Bw1 kk ly hW1)
    | (have hgo := Bw2; clear hgo
       refine wpList_alloc_W rfl rfl ?_
       intro y2 w3 ly hW2 kk
       have HM2 : Hid (¬ mb = y2) := Lib.hid (by have := r_m.lt; omega)
       have HYY : Hid (¬ y1 = y2) := Lib.hid (by have := wrAt.lt _ _ _ _ HW1.out y1 rfl; omega)
       replace r_m := zrb r_m kk
       have LY2 := Lib.hid (Nat.le_trans Bw2.size ly)
       have HW1b := Lib.hid (HW1.out.bel kk)
       have HW2 := Lib.hid hW2
       have Bw3 := zbt HGS Bw2 kk
       clear Bw2 kk ly hW2 HW1)
    | (have hgo := Bw3; clear hgo
       go_at_call 21
       refine (block_any _ N HN.out.1).mono ?_
       rintro e w4 ⟨v_k, blk, rfl, f_k, hkl, kk⟩
       have HKL := Lib.hid hkl
       replace r_m := zrb r_m kk
       have HW1c := Lib.hid (HW1b.out.bel kk)
       have HW2b := Lib.hid (HW2.out.bel kk)
       have Bw4 := zbt HGS Bw3 kk
       clear Bw3 kk hkl HW1b HW2)
    | (have hgo := Bw4; clear hgo
       go_at_call 20
       refine (wrBytes_any _ _ y1 [] v_k blk HW1c.out f_k (by have := HKL.out; have := HN.out.1; omega) (by decide)).mono ?_
       rintro e w5 ⟨rfl, O5, hW5, s5, _⟩
       replace r_m := Sam.row r_m s5 HM1.out
       have HW5 := Lib.hid hW5
       have HW2c := Lib.hid (wrAt.stay _ _ _ _ _ _ HW2b.out s5 (fun b hb h => HYY.out (hb.symm.trans h)))
       have Bw5 := Bw4.trans (s5.below (fun b hb => by rw [hb]; exact LY1.out) Bw4.size)
       clear Bw4 s5 hW5 HW1c HW2b f_k)
    | (have hgo := Bw5; clear hgo
       go_at_call 11
       refine (wrDone_own _ _ y1 _ HW5.out (by have := bytL_len blk; have := HKL.out; have := HN.out.1; simp; omega)).mono ?_
       rintro e w6 ⟨v_b, rfl, o_b, kk⟩
       rw [List.nil_append] at o_b
       replace r_m := zrb r_m kk
       have HW2d := Lib.hid (HW2c.out.bel kk)
       have HYB : Hid (y2 < w5.heap.size) := Lib.hid (wrAt.lt _ _ _ _ HW2c.out y2 rfl)
       have Bw6 := zbt HGS Bw5 kk
       have KK6 := Lib.hid kk.size
       clear Bw5 kk HW2c HW5))
  have HOB := Lib.hid o_b
  have HRM := Lib.hid r_m
  go_loopw [10, 11] (fun lv iv wr => ∃ (i : Nat), i ≤ N ∧ iv = .int .i64 (i : Int) ∧ outAt wr w6.heap.size lv (List.replicate i []) ∧ Below w6.heap.size w6 wr) (fun _ iv _ => N - (intOf iv).toNat)
  case atStart => exact ⟨0, Nat.zero_le _, rfl, outAt.nil _ _, Below.refl _ _⟩
  case round =>
    clear r_m o_b
    obtain ⟨i, hi, rfl, o_l, Bx⟩ := hrel
    by_cases hlt : i < N
    · have hiI : (i : Int) < (N : Int) := by omega
      have HI := Lib.hid hlt
      obtain ⟨i1, hi1⟩ := nat_var (i + 1)
      have e5 : IntKind.i64.wrap ((i : Int) + 1) = (i1 : Int) := by rw [IntWalk.i64_in _ (by have := HN.out.1; omega)]; omega
      have HI1 := Lib.hid hi1
      clear hi hlt hi1
      go_wp2_with (first
        | (have hgo := Bx; clear hgo
           refine wrowV1 rfl (.const (.slice none 0 0)) rfl (Bs.nil _) rfl ?_
           intro v_r w7 f_r kk
           replace o_l := o_l.step kk
           have By := Bx.trans (kk.mono Bx.size)
           clear Bx kk)
        | (have hgo := By; clear hgo
           refine wappR (.tmp 40) (.tmp 41) rfl rfl o_l (BsK.nil _ _) f_r rfl rfl (by have := HN.out.1; have := HI.out; rw [List.length_replicate]; omega) By.size ?_
           intro v8 w8 o8 gk
           obtain ⟨xs, hxs⟩ := o_l.own
           have Bz := By.grown gk By.size (fun k hk => (hxs.block k hk).1)
           rw [← List.replicate_succ'] at o8
           clear By gk hxs o_l f_r))
      go_roundw
      case rel => exact ⟨i + 1, HI.out, by rw [HI1.out], o8, Bz⟩
      case measure => (have := HI1.out; have := HI.out; simp [intOf]; try omega)
    · obtain rfl : i = N := by omega
      have hiI : ¬ (i : Int) < (i : Int) := by omega
      have r_m := zrb HRM.out Bx
      have o_b := Owns.belowJ HOB.out Bx
      have HW2e := Lib.hid (HW2d.out.bel Bx)
      have Bw8 := zbt HGS Bw6 Bx
      have HS8 := Lib.hid (Nat.le_trans KK6.out Bx.size)
      have HLL : Hid ((List.replicate i ([] : List UInt8)).flatten.length + (List.replicate i ([] : List UInt8)).length ≤ 300) := Lib.hid (by rw [rep_nil, List.length_replicate]; have := HN.out.1; simp; omega)
      obtain ⟨LB, hLB⟩ : ∃ LB, LB = (bytL blk).length := ⟨_, rfl⟩
      have HLB : Hid (LB = (bytL blk).length ∧ LB ≤ 1000 ∧ i + 1 ≤ LB ∧ LB = 1) := Lib.hid (by
        have q := numL7_len i
        have p := numL7_pos i
        have k := HKL.out
        have h := HN.out.1
        rw [hLB]
        unfold bytL
        rw [k, List.length_append, k]
        have z := HN.out.2.2
        subst z
        rw [num0]
        simp)
      have CL : Hid ((numL7 (List.replicate i ([] : List UInt8)).length ++ ((List.replicate i ([] : List UInt8)).map bytL).flatten) = numL7 i ++ ((List.replicate i ([] : List UInt8)).map bytL).flatten) := Lib.hid (by rw [List.length_replicate])
      obtain ⟨LC, hLC⟩ : ∃ LC, LC = (numL7 i ++ ((List.replicate i ([] : List UInt8)).map bytL).flatten).length := ⟨_, rfl⟩
      have HLC : Hid (LC = (numL7 i ++ ((List.replicate i ([] : List UInt8)).map bytL).flatten).length ∧ LC ≤ 1000 ∧ i + 1 ≤ LC) := Lib.hid (by
        have q := numL7_len i
        have p := numL7_pos i
        have h := HN.out.1
        rw [hLC, rep_flat, List.length_append, List.length_replicate]
        omega)
      obtain ⟨adb, capb, hvb⟩ : ∃ a c, v_b = .slice a LB c := by
        obtain ⟨a, c, h, _⟩ := o_b.bs
        exact ⟨a, c, by rw [h, hLB]⟩
      subst hvb
      clear hlt hi Bx Bw6 HOB HRM HW2d hLB hLC
      go_wp2_with (first
        | (have hgo := Bw8; clear hgo
           go_at_call 22
           refine (wrList_any _ _ y2 [] _ (List.replicate i []) HW2e.out (BssK.old o_l.bss (Below.refl _ _) fun b h => h) (by have := HLL.out; omega) (by decide)).mono ?_
           rintro e w9 ⟨rfl, O9, hW9, s9, _⟩
           rw [List.nil_append, CL.out] at hW9
           replace r_m := Sam.row r_m s9 HM2.out
           have HW9 := Lib.hid hW9
           have o_b9 := Lib.hid (o_b.sam s9 (fun b hb e => by have := Owns.block o_b b hb; have := HYB.out; omega))
           have Bw9 := Bw8.trans (s9.below (fun b hb => by rw [hb]; exact LY2.out) Bw8.size)
           clear Bw8 s9 hW9 o_l o_b HW2e)
        | (have hgo := Bw9; clear hgo
           go_at_call 11
           refine (wrDone_own _ _ y2 _ HW9.out (by have := HLC.out; omega)).mono ?_
           rintro e w10 ⟨v_c, rfl, o_c, kk⟩
           replace r_m := zrb r_m kk
           have f_b := zfb o_b9.out.bs kk
           have f_c := o_c.bs
           obtain ⟨adc, capc, hvc⟩ : ∃ a c, v_c = .slice a LC c := by
             obtain ⟨a, c, h, _⟩ := o_c.bs
             exact ⟨a, c, by rw [h, HLC.out.1]⟩
           subst hvc
           have Bw10 := zbt HGS Bw9 kk
           clear Bw9 kk HW9 o_b9 o_c)
        | (have hgo := Bw10; clear hgo
           refine wpList_loadG 3 (.tmp 4) rfl rfl (.int .i64 (M : Int)) r_m rfl (by omega) rfl (by kernel_rfl) ?_)
        | (have hgo := Bw10; clear hgo
           go_at_call 8
           refine (awake14_any _).mono ?_
           rintro e w13 ⟨rfl, kk⟩
           have Bw13 := Bw10.trans (kk.mono Bw10.size)
           clear Bw10 kk))
      go_ret
      exact ⟨rfl, Bw13⟩
set_option maxHeartbeats 4000000 in
set_option maxRecDepth 20000 in
theorem limits_z1 (N M : Nat) (w : World) (hN : N ≤ 300) (hM : M ≤ 300) (hz : N = 0) : Calls Try.prog 6 #[.int .i64 (N : Int), .int .i64 (M : Int), .bool true] w fun e w' => e = .returned (.bool true) ∧ Below w.heap.size w w' := by
  have g1 : ¬ (N : Int) < 0 := by omega
  have g2 : ¬ (300 : Int) < (N : Int) := by omega
  have g3 : ¬ (M : Int) < 0 := by omega
  have g4 : ¬ (300 : Int) < (M : Int) := by omega
  have hmf : ∀ (fn : Fn) (first cap : Array Value) (w : World), (Instr.makeFunc fn first cap).run Try.prog w = .ok (.func fn first cap) w := fun _ _ _ _ => rfl
  have g5 : ((N : Int) == 0) = true := by simp; omega
  have g6 : ¬ (M : Int) < (N : Int) := by omega
  have HN := Lib.hid (And.intro hN (And.intro hM hz))
  have Bw0 := Below.refl w.heap.size w
  have HGS : Hid (∀ wq : World, Below w.heap.size w wq → w.heap.size ≤ wq.heap.size) := Lib.hid fun wq h => h.size
  clear hN hM hz
  go_enter Try.func6, Try.ntmps6
  go_wp2_with (first
    | (have hgo := Bw0; clear hgo
       refine wbox_int 3 (.tmp 1) rfl rfl rfl ?_
       intro mb w1 lm r_m kk
       have RM0 := Lib.hid r_m.lt
       have Bw1 := kk
       clear Bw0 kk lm)
    | (refine wpList_loadG 3 (.tmp 4) rfl rfl (.int .i64 (M : Int)) r_m rfl (by omega) rfl (by kernel_rfl) ?_)
    | (have hgo := Bw1; clear hgo
       refine wpList_alloc_W rfl rfl ?_
       intro y1 w2 ly hW1 kk
       have HM1 : Hid (¬ mb = y1) := Lib.hid (by have := r_m.lt; omega)
       replace r_m := zrb r_m kk
       have LY1 := Lib.hid (Nat.le_trans Bw1.size ly)
       have HW1 := Lib.hid hW1
       have Bw2 := zbt HGS Bw1 kk
       clear Bw1 kk ly hW1)
    | (have hgo := Bw2; clear hgo
       refine wpList_alloc_W rfl rfl ?_
       intro y2 w3 ly hW2 kk
       have HM2 : Hid (¬ mb = y2) := Lib.hid (by have := r_m.lt; omega)
       have HYY : Hid (¬ y1 = y2) := Lib.hid (by have := wrAt.lt _ _ _ _ HW1.out y1 rfl; omega)
       replace r_m := zrb r_m kk
       have LY2 := Lib.hid (Nat.le_trans Bw2.size ly)
       have HW1b := Lib.hid (HW1.out.bel kk)
       have HW2 := Lib.hid hW2
       have Bw3 := zbt HGS Bw2 kk
       clear Bw2 kk ly hW2 HW1)
    | (have hgo := Bw3; clear hgo
       go_at_call 21
       refine (block_any _ N HN.out.1).mono ?_
       rintro e w4 ⟨v_k, blk, rfl, f_k, hkl, kk⟩
       have HKL := Lib.hid hkl
       replace r_m := zrb r_m kk
       have HW1c := Lib.hid (HW1b.out.bel kk)
       have HW2b := Lib.hid (HW2.out.bel kk)
       have Bw4 := zbt HGS Bw3 kk
       clear Bw3 kk hkl HW1b HW2)
    | (have hgo := Bw4; clear hgo
       go_at_call 20
       refine (wrBytes_any _ _ y1 [] v_k blk HW1c.out f_k (by have := HKL.out; have := HN.out.1; omega) (by decide)).mono ?_
       rintro e w5 ⟨rfl, O5, hW5, s5, _⟩
       replace r_m := Sam.row r_m s5 HM1.out
       have HW5 := Lib.hid hW5
       have HW2c := Lib.hid (wrAt.stay _ _ _ _ _ _ HW2b.out s5 (fun b hb h => HYY.out (hb.symm.trans h)))
       have Bw5 := Bw4.trans (s5.below (fun b hb => by rw [hb]; exact LY1.out) Bw4.size)
       clear Bw4 s5 hW5 HW1c HW2b f_k)
    | (have hgo := Bw5; clear hgo
       go_at_call 11
       refine (wrDone_own _ _ y1 _ HW5.out (by have := bytL_len blk; have := HKL.out; have := HN.out.1; simp; omega)).mono ?_
       rintro e w6 ⟨v_b, rfl, o_b, kk⟩
       rw [List.nil_append] at o_b
       replace r_m := zrb r_m kk
       have HW2d := Lib.hid (HW2c.out.bel kk)
       have HYB : Hid (y2 < w5.heap.size) := Lib.hid (wrAt.lt _ _ _ _ HW2c.out y2 rfl)
       have Bw6 := zbt HGS Bw5 kk
       have KK6 := Lib.hid kk.size
       clear Bw5 kk HW2c HW5))
  have HOB := Lib.hid o_b
  have HRM := Lib.hid r_m
  go_loopw [10, 11] (fun lv iv wr => ∃ (i : Nat), i ≤ N ∧ iv = .int .i64 (i : Int) ∧ outAt wr w6.heap.size lv (List.replicate i []) ∧ Below w6.heap.size w6 wr) (fun _ iv _ => N - (intOf iv).toNat)
  case atStart => exact ⟨0, Nat.zero_le _, rfl, outAt.nil _ _, Below.refl _ _⟩
  case round =>
    clear r_m o_b
    obtain ⟨i, hi, rfl, o_l, Bx⟩ := hrel
    by_cases hlt : i < N
    · have hiI : (i : Int) < (N : Int) := by omega
      have HI := Lib.hid hlt
      obtain ⟨i1, hi1⟩ := nat_var (i + 1)
      have e5 : IntKind.i64.wrap ((i : Int) + 1) = (i1 : Int) := by rw [IntWalk.i64_in _ (by have := HN.out.1; omega)]; omega
      have HI1 := Lib.hid hi1
      clear hi hlt hi1
      go_wp2_with (first
        | (have hgo := Bx; clear hgo
           refine wrowV1 rfl (.const (.slice none 0 0)) rfl (Bs.nil _) rfl ?_
           intro v_r w7 f_r kk
           replace o_l := o_l.step kk
           have By := Bx.trans (kk.mono Bx.size)
           clear Bx kk)
        | (have hgo := By; clear hgo
           refine wappR (.tmp 40) (.tmp 41) rfl rfl o_l (BsK.nil _ _) f_r rfl rfl (by have := HN.out.1; have := HI.out; rw [List.length_replicate]; omega) By.size ?_
           intro v8 w8 o8 gk
           obtain ⟨xs, hxs⟩ := o_l.own
           have Bz := By.grown gk By.size (fun k hk => (hxs.block k hk).1)
           rw [← List.replicate_succ'] at o8
           clear By gk hxs o_l f_r))
      go_roundw
      case rel => exact ⟨i + 1, HI.out, by rw [HI1.out], o8, Bz⟩
      case measure => (have := HI1.out; have := HI.out; simp [intOf]; try omega)
    · obtain rfl : i = N := by omega
      have hiI : ¬ (i : Int) < (i : Int) := by omega
      have r_m := zrb HRM.out Bx
      have o_b := Owns.belowJ HOB.out Bx
      have HW2e := Lib.hid (HW2d.out.bel Bx)
      have Bw8 := zbt HGS Bw6 Bx
      have HS8 := Lib.hid (Nat.le_trans KK6.out Bx.size)
      have HLL : Hid ((List.replicate i ([] : List UInt8)).flatten.length + (List.replicate i ([] : List UInt8)).length ≤ 300) := Lib.hid (by rw [rep_nil, List.length_replicate]; have := HN.out.1; simp; omega)
      obtain ⟨LB, hLB⟩ : ∃ LB, LB = (bytL blk).length := ⟨_, rfl⟩
      have HLB : Hid (LB = (bytL blk).length ∧ LB ≤ 1000 ∧ i + 1 ≤ LB ∧ LB = 1) := Lib.hid (by
        have q := numL7_len i
        have p := numL7_pos i
        have k := HKL.out
        have h := HN.out.1
        rw [hLB]
        unfold bytL
        rw [k, List.length_append, k]
        have z := HN.out.2.2
        subst z
        rw [num0]
        simp)
      have CL : Hid ((numL7 (List.replicate i ([] : List UInt8)).length ++ ((List.replicate i ([] : List UInt8)).map bytL).flatten) = numL7 i ++ ((List.replicate i ([] : List UInt8)).map bytL).flatten) := Lib.hid (by rw [List.length_replicate])
      obtain ⟨LC, hLC⟩ : ∃ LC, LC = (numL7 i ++ ((List.replicate i ([] : List UInt8)).map bytL).flatten).length := ⟨_, rfl⟩
      have HLC : Hid (LC = (numL7 i ++ ((List.replicate i ([] : List UInt8)).map bytL).flatten).length ∧ LC ≤ 1000 ∧ i + 1 ≤ LC) := Lib.hid (by
        have q := numL7_len i
        have p := numL7_pos i
        have h := HN.out.1
        rw [hLC, rep_flat, List.length_append, List.length_replicate]
        omega)
      have t1 : ¬ (1 : Int) < (LB : Int) := by have := HLB.out; omega
      obtain ⟨adb, capb, hvb⟩ : ∃ a c, v_b = .slice a LB c := by
        obtain ⟨a, c, h, _⟩ := o_b.bs
        exact ⟨a, c, by rw [h, hLB]⟩
      subst hvb
      clear hlt hi Bx Bw6 HOB HRM HW2d hLB hLC
      go_wp2_with (first
        | (have hgo := Bw8; clear hgo
           go_at_call 22
           refine (wrList_any _ _ y2 [] _ (List.replicate i []) HW2e.out (BssK.old o_l.bss (Below.refl _ _) fun b h => h) (by have := HLL.out; omega) (by decide)).mono ?_
           rintro e w9 ⟨rfl, O9, hW9, s9, _⟩
           rw [List.nil_append, CL.out] at hW9
           replace r_m := Sam.row r_m s9 HM2.out
           have HW9 := Lib.hid hW9
           have o_b9 := Lib.hid (o_b.sam s9 (fun b hb e => by have := Owns.block o_b b hb; have := HYB.out; omega))
           have Bw9 := Bw8.trans (s9.below (fun b hb => by rw [hb]; exact LY2.out) Bw8.size)
           clear Bw8 s9 hW9 o_l o_b HW2e)
        | (have hgo := Bw9; clear hgo
           go_at_call 11
           refine (wrDone_own _ _ y2 _ HW9.out (by have := HLC.out; omega)).mono ?_
           rintro e w10 ⟨v_c, rfl, o_c, kk⟩
           replace r_m := zrb r_m kk
           have f_b := zfb o_b9.out.bs kk
           have f_c := o_c.bs
           obtain ⟨adc, capc, hvc⟩ : ∃ a c, v_c = .slice a LC c := by
             obtain ⟨a, c, h, _⟩ := o_c.bs
             exact ⟨a, c, by rw [h, HLC.out.1]⟩
           subst hvc
           have Bw10 := zbt HGS Bw9 kk
           clear Bw9 kk HW9 o_b9 o_c)
        | (have hgo := Bw10; clear hgo
           refine wpList_loadG 3 (.tmp 4) rfl rfl (.int .i64 (M : Int)) r_m rfl (by omega) rfl (by kernel_rfl) ?_)
        | (have hgo := Bw10; clear hgo
           go_at_call 8
           refine (awake14_any _).mono ?_
           rintro e w13 ⟨rfl, kk⟩
           have Bw13 := Bw10.trans (kk.mono Bw10.size)
           clear Bw10 kk))
      go_ret
      exact ⟨rfl, Bw13⟩
set_option maxHeartbeats 4000000 in
set_option maxRecDepth 20000 in
theorem limits_b0 (N M : Nat) (w : World) (hN : N ≤ 300) (hM : M ≤ 300) (hz : 1 ≤ N) (hb : M < N) : Calls Try.prog 6 #[.int .i64 (N : Int), .int .i64 (M : Int), .bool false] w fun e w' => e = .returned (.bool true) ∧ Below w.heap.size w w' := by
  have g1 : ¬ (N : Int) < 0 := by omega
  have g2 : ¬ (300 : Int) < (N : Int) := by omega
  have g3 : ¬ (M : Int) < 0 := by omega
  have g4 : ¬ (300 : Int) < (M : Int) := by omega
  have hmf : ∀ (fn : Fn) (first cap : Array Value) (w : World), (Instr.makeFunc fn first cap).run Try.prog w = .ok (.func fn first cap) w := fun _ _ _ _ => rfl
  have g5 : ¬ (N : Int) = 0 := by omega
  have g6 : (M : Int) < (N : Int) := by omega
  have HN := Lib.hid (And.intro hN (And.intro hM hz))
  have HB := Lib.hid hb
  have Bw0 := Below.refl w.heap.size w
  have HGS : Hid (∀ wq : World, Below w.heap.size w wq → w.heap.size ≤ wq.heap.size) := Lib.hid fun wq h => h.size
  clear hN hM hz hb
  go_enter Try.func6, Try.ntmps6
  go_wp2_with (first
    | (have hgo := Bw0; clear hgo
       refine wbox_int 3 (.tmp 1) rfl rfl rfl ?_
       intro mb w1 lm r_m kk
       have RM0 := Lib.hid r_m.lt
       have Bw1 := kk
       clear Bw0 kk lm)
    | (refine wpList_loadG 3 (.tmp 4) rfl rfl (.int .i64 (M : Int)) r_m rfl (by omega) rfl (by kernel_rfl) ?_)
    | (have hgo := Bw1; clear hgo
       refine wpList_alloc_W rfl rfl ?_
       intro y1 w2 ly hW1 kk
       have HM1 : Hid (¬ mb = y1) := Lib.hid (by have := r_m.lt; omega)
       replace r_m := zrb r_m kk
       have LY1 := Lib.hid (Nat.le_trans Bw1.size ly)
       have HW1 := Lib.hid hW1
       have Bw2 := zbt HGS Bw1 kk
       clear Bw1 kk ly hW1)
    | (have hgo := Bw2; clear hgo
       refine wpList_alloc_W rfl rfl ?_
       intro y2 w3 ly hW2 kk
       have HM2 : Hid (¬ mb = y2) := Lib.hid (by have := r_m.lt; omega)
       have HYY : Hid (¬ y1 = y2) := Lib.hid (by have := wrAt.lt _ _ _ _ HW1.out y1 rfl; omega)
       replace r_m := zrb r_m kk
       have LY2 := Lib.hid (Nat.le_trans Bw2.size ly)
       have HW1b := Lib.hid (HW1.out.bel kk)
       have HW2 := Lib.hid hW2
       have Bw3 := zbt HGS Bw2 kk
       clear Bw2 kk ly hW2 HW1)
    | (have hgo := Bw3; clear hgo
       go_at_call 21
       refine (block_any _ N HN.out.1).mono ?_
       rintro e w4 ⟨v_k, blk, rfl, f_k, hkl, kk⟩
       have HKL := Lib.hid hkl
       replace r_m := zrb r_m kk
       have HW1c := Lib.hid (HW1b.out.bel kk)
       have HW2b := Lib.hid (HW2.out.bel kk)
       have Bw4 := zbt HGS Bw3 kk
       clear Bw3 kk hkl HW1b HW2)
    | (have hgo := Bw4; clear hgo
       go_at_call 20
       refine (wrBytes_any _ _ y1 [] v_k blk HW1c.out f_k (by have := HKL.out; have := HN.out.1; omega) (by decide)).mono ?_
       rintro e w5 ⟨rfl, O5, hW5, s5, _⟩
       replace r_m := Sam.row r_m s5 HM1.out
       have HW5 := Lib.hid hW5
       have HW2c := Lib.hid (wrAt.stay _ _ _ _ _ _ HW2b.out s5 (fun b hb h => HYY.out (hb.symm.trans h)))
       have Bw5 := Bw4.trans (s5.below (fun b hb => by rw [hb]; exact LY1.out) Bw4.size)
       clear Bw4 s5 hW5 HW1c HW2b f_k)
    | (have hgo := Bw5; clear hgo
       go_at_call 11
       refine (wrDone_own _ _ y1 _ HW5.out (by have := bytL_len blk; have := HKL.out; have := HN.out.1; simp; omega)).mono ?_
       rintro e w6 ⟨v_b, rfl, o_b, kk⟩
       rw [List.nil_append] at o_b
       replace r_m := zrb r_m kk
       have HW2d := Lib.hid (HW2c.out.bel kk)
       have HYB : Hid (y2 < w5.heap.size) := Lib.hid (wrAt.lt _ _ _ _ HW2c.out y2 rfl)
       have Bw6 := zbt HGS Bw5 kk
       have KK6 := Lib.hid kk.size
       clear Bw5 kk HW2c HW5))
  have HOB := Lib.hid o_b
  have HRM := Lib.hid r_m
  go_loopw [10, 11] (fun lv iv wr => ∃ (i : Nat), i ≤ N ∧ iv = .int .i64 (i : Int) ∧ outAt wr w6.heap.size lv (List.replicate i []) ∧ Below w6.heap.size w6 wr) (fun _ iv _ => N - (intOf iv).toNat)
  case atStart => exact ⟨0, Nat.zero_le _, rfl, outAt.nil _ _, Below.refl _ _⟩
  case round =>
    clear r_m o_b
    obtain ⟨i, hi, rfl, o_l, Bx⟩ := hrel
    by_cases hlt : i < N
    · have hiI : (i : Int) < (N : Int) := by omega
      have HI := Lib.hid hlt
      obtain ⟨i1, hi1⟩ := nat_var (i + 1)
      have e5 : IntKind.i64.wrap ((i : Int) + 1) = (i1 : Int) := by rw [IntWalk.i64_in _ (by have := HN.out.1; omega)]; omega
      have HI1 := Lib.hid hi1
      clear hi hlt hi1
      go_wp2_with (first
        | (have hgo := Bx; clear hgo
           refine wrowV1 rfl (.const (.slice none 0 0)) rfl (Bs.nil _) rfl ?_
           intro v_r w7 f_r kk
           replace o_l := o_l.step kk
           have By := Bx.trans (kk.mono Bx.size)
           clear Bx kk)
        | (have hgo := By; clear hgo
           refine wappR (.tmp 40) (.tmp 41) rfl rfl o_l (BsK.nil _ _) f_r rfl rfl (by have := HN.out.1; have := HI.out; rw [List.length_replicate]; omega) By.size ?_
           intro v8 w8 o8 gk
           obtain ⟨xs, hxs⟩ := o_l.own
           have Bz := By.grown gk By.size (fun k hk => (hxs.block k hk).1)
           rw [← List.replicate_succ'] at o8
           clear By gk hxs o_l f_r))
      go_roundw
      case rel => exact ⟨i + 1, HI.out, by rw [HI1.out], o8, Bz⟩
      case measure => (have := HI1.out; have := HI.out; simp [intOf]; try omega)
    · obtain rfl : i = N := by omega
      have hiI : ¬ (i : Int) < (i : Int) := by omega
      have r_m := zrb HRM.out Bx
      have o_b := Owns.belowJ HOB.out Bx
      have HW2e := Lib.hid (HW2d.out.bel Bx)
      have Bw8 := zbt HGS Bw6 Bx
      have HS8 := Lib.hid (Nat.le_trans KK6.out Bx.size)
      have HLL : Hid ((List.replicate i ([] : List UInt8)).flatten.length + (List.replicate i ([] : List UInt8)).length ≤ 300) := Lib.hid (by rw [rep_nil, List.length_replicate]; have := HN.out.1; simp; omega)
      obtain ⟨LB, hLB⟩ : ∃ LB, LB = (bytL blk).length := ⟨_, rfl⟩
      have HLB : Hid (LB = (bytL blk).length ∧ LB ≤ 1000 ∧ i + 1 ≤ LB) := Lib.hid (by
        have q := numL7_len i
        have p := numL7_pos i
        have k := HKL.out
        have h := HN.out.1
        rw [hLB]
        unfold bytL
        rw [k, List.length_append, k]
        omega)
      have CL : Hid ((numL7 (List.replicate i ([] : List UInt8)).length ++ ((List.replicate i ([] : List UInt8)).map bytL).flatten) = numL7 i ++ ((List.replicate i ([] : List UInt8)).map bytL).flatten) := Lib.hid (by rw [List.length_replicate])
      obtain ⟨LC, hLC⟩ : ∃ LC, LC = (numL7 i ++ ((List.replicate i ([] : List UInt8)).map bytL).flatten).length := ⟨_, rfl⟩
      have HLC : Hid (LC = (numL7 i ++ ((List.replicate i ([] : List UInt8)).map bytL).flatten).length ∧ LC ≤ 1000 ∧ i + 1 ≤ LC) := Lib.hid (by
        have q := numL7_len i
        have p := numL7_pos i
        have h := HN.out.1
        rw [hLC, rep_flat, List.length_append, List.length_replicate]
        omega)
      obtain ⟨adb, capb, hvb⟩ : ∃ a c, v_b = .slice a LB c := by
        obtain ⟨a, c, h, _⟩ := o_b.bs
        exact ⟨a, c, by rw [h, hLB]⟩
      subst hvb
      clear hlt hi Bx Bw6 HOB HRM HW2d hLB hLC
      go_wp2_with (first
        | (have hgo := Bw8; clear hgo
           go_at_call 22
           refine (wrList_any _ _ y2 [] _ (List.replicate i []) HW2e.out (BssK.old o_l.bss (Below.refl _ _) fun b h => h) (by have := HLL.out; omega) (by decide)).mono ?_
           rintro e w9 ⟨rfl, O9, hW9, s9, _⟩
           rw [List.nil_append, CL.out] at hW9
           replace r_m := Sam.row r_m s9 HM2.out
           have HW9 := Lib.hid hW9
           have o_b9 := Lib.hid (o_b.sam s9 (fun b hb e => by have := Owns.block o_b b hb; have := HYB.out; omega))
           have Bw9 := Bw8.trans (s9.below (fun b hb => by rw [hb]; exact LY2.out) Bw8.size)
           clear Bw8 s9 hW9 o_l o_b HW2e)
        | (have hgo := Bw9; clear hgo
           go_at_call 11
           refine (wrDone_own _ _ y2 _ HW9.out (by have := HLC.out; omega)).mono ?_
           rintro e w10 ⟨v_c, rfl, o_c, kk⟩
           replace r_m := zrb r_m kk
           have f_b := zfb o_b9.out.bs kk
           have f_c := o_c.bs
           obtain ⟨adc, capc, hvc⟩ : ∃ a c, v_c = .slice a LC c := by
             obtain ⟨a, c, h, _⟩ := o_c.bs
             exact ⟨a, c, by rw [h, HLC.out.1]⟩
           subst hvc
           have Bw10 := zbt HGS Bw9 kk
           clear Bw9 kk HW9 o_b9 o_c)
        | (have hgo := Bw10; clear hgo
           refine wpList_loadG 3 (.tmp 4) rfl rfl (.int .i64 (M : Int)) r_m rfl (by omega) rfl (by kernel_rfl) ?_)
        | (have hgo := Bw10; clear hgo
           go_at_call 12
           refine (rd1 23 _ mb M 11 _ _ _ Try.func23 (by kernel_rfl) (by kernel_rfl) f_b (by have := HLB.out; skip; omega) r_m (.inr ⟨by decide, fun O w1 r hr hm => lim1_big O w1 r mb M i blk (by unfold bytL at hr; rw [HKL.out] at hr; exact hr) ⟨by have := HN.out; omega, by have := HN.out; omega, HB.out⟩ hm⟩)).mono ?_
           rintro e w11 ⟨rfl, kk⟩
           replace r_m := zrb r_m kk
           have FC2 := Lib.hid (zfb f_c kk)
           clear f_c f_b
           have Bw11 := zbt HGS Bw10 kk
           clear Bw10 kk)
        | (have hgo := Bw11; clear hgo
           go_at_call 12
           refine (rd1 25 _ mb M 11 _ _ _ Try.func25 (by kernel_rfl) (by kernel_rfl) FC2.out (by have := HLC.out; skip; omega) r_m (.inr ⟨by decide, fun O w1 r hr hm => lim2_big O w1 r mb M i _ hr ⟨by have := HN.out; omega, by have := HN.out; omega, HB.out⟩ hm⟩)).mono ?_
           rintro e w12 ⟨rfl, kk⟩
           have Bw12 := zbt HGS Bw11 kk
           clear Bw11 kk r_m FC2)
        | (have hgo := Bw12; clear hgo
           go_at_call 8
           refine (awake14_any _).mono ?_
           rintro e w13 ⟨rfl, kk⟩
           have Bw13 := Bw12.trans (kk.mono Bw12.size)
           clear Bw12 kk))
      go_ret
      exact ⟨rfl, Bw13⟩
set_option maxHeartbeats 4000000 in
set_option maxRecDepth 20000 in
theorem limits_b1 (N M : Nat) (w : World) (hN : N ≤ 300) (hM : M ≤ 300) (hz : 1 ≤ N) (hb : M < N) : Calls Try.prog 6 #[.int .i64 (N : Int), .int .i64 (M : Int), .bool true] w fun e w' => e = .returned (.bool true) ∧ Below w.heap.size w w' := by
  have g1 : ¬ (N : Int) < 0 := by omega
  have g2 : ¬ (300 : Int) < (N : Int) := by omega
  have g3 : ¬ (M : Int) < 0 := by omega
  have g4 : ¬ (300 : Int) < (M : Int) := by omega
  have hmf : ∀ (fn : Fn) (first cap : Array Value) (w : World), (Instr.makeFunc fn first cap).run Try.prog w = .ok (.func fn first cap) w := fun _ _ _ _ => rfl
  have g5 : ¬ (N : Int) = 0 := by omega
  have g6 : (M : Int) < (N : Int) := by omega
  have HN := Lib.hid (And.intro hN (And.intro hM hz))
  have HB := Lib.hid hb
  have Bw0 := Below.refl w.heap.size w
  have HGS : Hid (∀ wq : World, Below w.heap.size w wq → w.heap.size ≤ wq.heap.size) := Lib.hid fun wq h => h.size
  clear hN hM hz hb
  go_enter Try.func6, Try.ntmps6
  go_wp2_with (first
    | (have hgo := Bw0; clear hgo
       refine wbox_int 3 (.tmp 1) rfl rfl rfl ?_
       intro mb w1 lm r_m kk
       have RM0 := Lib.hid r_m.lt
       have Bw1 := kk
       clear Bw0 kk lm)
    | (refine wpList_loadG 3 (.tmp 4) rfl rfl (.int .i64 (M : Int)) r_m rfl (by omega) rfl (by kernel_rfl) ?_)
    | (have hgo := Bw1; clear hgo
       refine wpList_alloc_W rfl rfl ?_
       intro y1 w2 ly hW1 kk
       have HM1 : Hid (¬ mb = y1) := Lib.hid (by have := r_m.lt; omega)
       replace r_m := zrb r_m kk
       have LY1 := Lib.hid (Nat.le_trans Bw1.size ly)
       have HW1 := Lib.hid hW1
       have Bw2 := zbt HGS Bw1 kk
       clear Bw1 kk ly hW1)
    | (have hgo := Bw2; clear hgo
       refine wpList_alloc_W rfl rfl ?_
       intro y2 w3 ly hW2 kk
       have HM2 : Hid (¬ mb = y2) := Lib.hid (by have := r_m.lt; omega)
       have HYY : Hid (¬ y1 = y2) := Lib.hid (by have := wrAt.lt _ _ _ _ HW1.out y1 rfl; omega)
       replace r_m := zrb r_m kk
       have LY2 := Lib.hid (Nat.le_trans Bw2.size ly)
       have HW1b := Lib.hid (HW1.out.bel kk)
       have HW2 := Lib.hid hW2
       have Bw3 := zbt HGS Bw2 kk
       clear Bw2 kk ly hW2 HW1)
    | (have hgo := Bw3; clear hgo
       go_at_call 21
       refine (block_any _ N HN.out.1).mono ?_
       rintro e w4 ⟨v_k, blk, rfl, f_k, hkl, kk⟩
       have HKL := Lib.hid hkl
       replace r_m := zrb r_m kk
       have HW1c := Lib.hid (HW1b.out.bel kk)
       have HW2b := Lib.hid (HW2.out.bel kk)
       have Bw4 := zbt HGS Bw3 kk
       clear Bw3 kk hkl HW1b HW2)
    | (have hgo := Bw4; clear hgo
       go_at_call 20
       refine (wrBytes_any _ _ y1 [] v_k blk HW1c.out f_k (by have := HKL.out; have := HN.out.1; omega) (by decide)).mono ?_
       rintro e w5 ⟨rfl, O5, hW5, s5, _⟩
       replace r_m := Sam.row r_m s5 HM1.out
       have HW5 := Lib.hid hW5
       have HW2c := Lib.hid (wrAt.stay _ _ _ _ _ _ HW2b.out s5 (fun b hb h => HYY.out (hb.symm.trans h)))
       have Bw5 := Bw4.trans (s5.below (fun b hb => by rw [hb]; exact LY1.out) Bw4.size)
       clear Bw4 s5 hW5 HW1c HW2b f_k)
    | (have hgo := Bw5; clear hgo
       go_at_call 11
       refine (wrDone_own _ _ y1 _ HW5.out (by have := bytL_len blk; have := HKL.out; have := HN.out.1; simp; omega)).mono ?_
       rintro e w6 ⟨v_b, rfl, o_b, kk⟩
       rw [List.nil_append] at o_b
       replace r_m := zrb r_m kk
       have HW2d := Lib.hid (HW2c.out.bel kk)
       have HYB : Hid (y2 < w5.heap.size) := Lib.hid (wrAt.lt _ _ _ _ HW2c.out y2 rfl)
       have Bw6 := zbt HGS Bw5 kk
       have KK6 := Lib.hid kk.size
       clear Bw5 kk HW2c HW5))
  have HOB := Lib.hid o_b
  have HRM := Lib.hid r_m
  go_loopw [10, 11] (fun lv iv wr => ∃ (i : Nat), i ≤ N ∧ iv = .int .i64 (i : Int) ∧ outAt wr w6.heap.size lv (List.replicate i []) ∧ Below w6.heap.size w6 wr) (fun _ iv _ => N - (intOf iv).toNat)
  case atStart => exact ⟨0, Nat.zero_le _, rfl, outAt.nil _ _, Below.refl _ _⟩
  case round =>
    clear r_m o_b
    obtain ⟨i, hi, rfl, o_l, Bx⟩ := hrel
    by_cases hlt : i < N
    · have hiI : (i : Int) < (N : Int) := by omega
      have HI := Lib.hid hlt
      obtain ⟨i1, hi1⟩ := nat_var (i + 1)
      have e5 : IntKind.i64.wrap ((i : Int) + 1) = (i1 : Int) := by rw [IntWalk.i64_in _ (by have := HN.out.1; omega)]; omega
      have HI1 := Lib.hid hi1
      clear hi hlt hi1
      go_wp2_with (first
        | (have hgo := Bx; clear hgo
           refine wrowV1 rfl (.const (.slice none 0 0)) rfl (Bs.nil _) rfl ?_
           intro v_r w7 f_r kk
           replace o_l := o_l.step kk
           have By := Bx.trans (kk.mono Bx.size)
           clear Bx kk)
        | (have hgo := By; clear hgo
           refine wappR (.tmp 40) (.tmp 41) rfl rfl o_l (BsK.nil _ _) f_r rfl rfl (by have := HN.out.1; have := HI.out; rw [List.length_replicate]; omega) By.size ?_
           intro v8 w8 o8 gk
           obtain ⟨xs, hxs⟩ := o_l.own
           have Bz := By.grown gk By.size (fun k hk => (hxs.block k hk).1)
           rw [← List.replicate_succ'] at o8
           clear By gk hxs o_l f_r))
      go_roundw
      case rel => exact ⟨i + 1, HI.out, by rw [HI1.out], o8, Bz⟩
      case measure => (have := HI1.out; have := HI.out; simp [intOf]; try omega)
    · obtain rfl : i = N := by omega
      have hiI : ¬ (i : Int) < (i : Int) := by omega
      have r_m := zrb HRM.out Bx
      have o_b := Owns.belowJ HOB.out Bx
      have HW2e := Lib.hid (HW2d.out.bel Bx)
      have Bw8 := zbt HGS Bw6 Bx
      have HS8 := Lib.hid (Nat.le_trans KK6.out Bx.size)
      have HLL : Hid ((List.replicate i ([] : List UInt8)).flatten.length + (List.replicate i ([] : List UInt8)).length ≤ 300) := Lib.hid (by rw [rep_nil, List.length_replicate]; have := HN.out.1; simp; omega)
      obtain ⟨LB, hLB⟩ : ∃ LB, LB = (bytL blk).length := ⟨_, rfl⟩
      have HLB : Hid (LB = (bytL blk).length ∧ LB ≤ 1000 ∧ i + 1 ≤ LB) := Lib.hid (by
        have q := numL7_len i
        have p := numL7_pos i
        have k := HKL.out
        have h := HN.out.1
        rw [hLB]
        unfold bytL
        rw [k, List.length_append, k]
        omega)
      have CL : Hid ((numL7 (List.replicate i ([] : List UInt8)).length ++ ((List.replicate i ([] : List UInt8)).map bytL).flatten) = numL7 i ++ ((List.replicate i ([] : List UInt8)).map bytL).flatten) := Lib.hid (by rw [List.length_replicate])
      obtain ⟨LC, hLC⟩ : ∃ LC, LC = (numL7 i ++ ((List.replicate i ([] : List UInt8)).map bytL).flatten).length := ⟨_, rfl⟩
      have HLC : Hid (LC = (numL7 i ++ ((List.replicate i ([] : List UInt8)).map bytL).flatten).length ∧ LC ≤ 1000 ∧ i + 1 ≤ LC) := Lib.hid (by
        have q := numL7_len i
        have p := numL7_pos i
        have h := HN.out.1
        rw [hLC, rep_flat, List.length_append, List.length_replicate]
        omega)
      have t1 : (1 : Int) < (LB : Int) := by have := HLB.out; have := HN.out.2.2; omega
      have t2 : (1 : Int) < (LC : Int) := by have := HLC.out; have := HN.out.2.2; omega
      obtain ⟨LB1, hLB1⟩ : ∃ k, k + 1 = LB := ⟨LB - 1, by have := HLB.out; omega⟩
      obtain ⟨LC1, hLC1⟩ : ∃ k, k + 1 = LC := ⟨LC - 1, by have := HLC.out; omega⟩
      have t3 : IntKind.i64.wrap ((LB : Int) - 1) = (LB1 : Int) := by rw [IntWalk.i64_in _ (by have := HLB.out; omega)]; omega
      have t4 : IntKind.i64.wrap ((LC : Int) - 1) = (LC1 : Int) := by rw [IntWalk.i64_in _ (by have := HLC.out; omega)]; omega
      have HL1 := Lib.hid (And.intro hLB1 hLC1)
      clear hLB1 hLC1
      obtain ⟨adb, capb, hvb⟩ : ∃ a c, v_b = .slice a LB c := by
        obtain ⟨a, c, h, _⟩ := o_b.bs
        exact ⟨a, c, by rw [h, hLB]⟩
      subst hvb
      clear hlt hi Bx Bw6 HOB HRM HW2d hLB hLC
      go_wp2_with (first
        | (have hgo := Bw8; clear hgo
           go_at_call 22
           refine (wrList_any _ _ y2 [] _ (List.replicate i []) HW2e.out (BssK.old o_l.bss (Below.refl _ _) fun b h => h) (by have := HLL.out; omega) (by decide)).mono ?_
           rintro e w9 ⟨rfl, O9, hW9, s9, _⟩
           rw [List.nil_append, CL.out] at hW9
           replace r_m := Sam.row r_m s9 HM2.out
           have HW9 := Lib.hid hW9
           have o_b9 := Lib.hid (o_b.sam s9 (fun b hb e => by have := Owns.block o_b b hb; have := HYB.out; omega))
           have Bw9 := Bw8.trans (s9.below (fun b hb => by rw [hb]; exact LY2.out) Bw8.size)
           clear Bw8 s9 hW9 o_l o_b HW2e)
        | (have hgo := Bw9; clear hgo
           go_at_call 11
           refine (wrDone_own _ _ y2 _ HW9.out (by have := HLC.out; omega)).mono ?_
           rintro e w10 ⟨v_c, rfl, o_c, kk⟩
           replace r_m := zrb r_m kk
           have f_b := zfb o_b9.out.bs kk
           have f_c := o_c.bs
           obtain ⟨adc, capc, hvc⟩ : ∃ a c, v_c = .slice a LC c := by
             obtain ⟨a, c, h, _⟩ := o_c.bs
             exact ⟨a, c, by rw [h, HLC.out.1]⟩
           subst hvc
           have Bw10 := zbt HGS Bw9 kk
           clear Bw9 kk HW9 o_b9 o_c)
        | (have hgo := Bw10; clear hgo
           refine wpList_loadG 3 (.tmp 4) rfl rfl (.int .i64 (M : Int)) r_m rfl (by omega) rfl (by kernel_rfl) ?_)
        | (have hgo := t3; clear hgo
           refine wpList_bsTo rfl (.tmp 57) (.tmp 60) rfl f_b LB1 rfl rfl rfl (by have := HL1.out; omega) (by have := HLB.out; omega) ?_
           intro f_b2
           have FB := Lib.hid f_b2
           clear t3 f_b f_b2)
        | (have hgo := t4; clear hgo
           refine wpList_bsTo rfl (.tmp 62) (.tmp 65) rfl f_c LC1 rfl rfl rfl (by have := HL1.out; omega) (by have := HLC.out; omega) ?_
           intro f_c2
           have FC := Lib.hid f_c2
           clear t4 f_c f_c2)
        | (have hgo := Bw10; clear hgo
           go_at_call 12
           refine (rd1 23 _ mb M 11 _ _ _ Try.func23 (by kernel_rfl) (by kernel_rfl) FB.out (by have := HLB.out; rw [List.length_take]; omega) r_m (.inr ⟨by decide, fun O w1 r hr hm => lim1_big O w1 r mb M i (blk.take (i - 1)) (by rw [(cut_b blk i LB1 HKL.out (by rw [HL1.out.1]; exact HLB.out.1) HN.out.2.2).1] at hr; exact hr) ⟨by have := HN.out; omega, by have := HN.out; omega, HB.out⟩ hm⟩)).mono ?_
           rintro e w11 ⟨rfl, kk⟩
           replace r_m := zrb r_m kk
           have FC2 := Lib.hid (zfb FC.out kk)
           clear FC FB
           have Bw11 := zbt HGS Bw10 kk
           clear Bw10 kk)
        | (have hgo := Bw11; clear hgo
           go_at_call 12
           refine (rd1 25 _ mb M 11 _ _ _ Try.func25 (by kernel_rfl) (by kernel_rfl) FC2.out (by have := HLC.out; rw [List.length_take]; omega) r_m (.inr ⟨by decide, fun O w1 r hr hm => by
             obtain ⟨K, rfl⟩ : ∃ K, i = K + 1 := ⟨i - 1, by have := HN.out.2.2; omega⟩
             rw [cut_c K LC1 (by rw [HL1.out.2]; exact HLC.out.1)] at hr
             exact lim2_big O w1 r mb M (K + 1) _ hr ⟨by have := HN.out; omega, by have := HN.out; omega, HB.out⟩ hm⟩)).mono ?_
           rintro e w12 ⟨rfl, kk⟩
           have Bw12 := zbt HGS Bw11 kk
           clear Bw11 kk r_m FC2)
        | (have hgo := Bw12; clear hgo
           go_at_call 8
           refine (awake14_any _).mono ?_
           rintro e w13 ⟨rfl, kk⟩
           have Bw13 := Bw12.trans (kk.mono Bw12.size)
           clear Bw12 kk))
      go_ret
      exact ⟨rfl, Bw13⟩
set_option maxHeartbeats 4000000 in
set_option maxRecDepth 20000 in
theorem limits_k0 (N M : Nat) (w : World) (hN : N ≤ 300) (hM : M ≤ 300) (hz : 1 ≤ N) (hb : N ≤ M) : Calls Try.prog 6 #[.int .i64 (N : Int), .int .i64 (M : Int), .bool false] w fun e w' => e = .returned (.bool true) ∧ Below w.heap.size w w' := by
  have g1 : ¬ (N : Int) < 0 := by omega
  have g2 : ¬ (300 : Int) < (N : Int) := by omega
  have g3 : ¬ (M : Int) < 0 := by omega
  have g4 : ¬ (300 : Int) < (M : Int) := by omega
  have hmf : ∀ (fn : Fn) (first cap : Array Value) (w : World), (Instr.makeFunc fn first cap).run Try.prog w = .ok (.func fn first cap) w := fun _ _ _ _ => rfl
  have g5 : ¬ (N : Int) = 0 := by omega
  have g6 : ¬ (M : Int) < (N : Int) := by omega
  have HN := Lib.hid (And.intro hN (And.intro hM hz))
  have HB := Lib.hid hb
  have Bw0 := Below.refl w.heap.size w
  have HGS : Hid (∀ wq : World, Below w.heap.size w wq → w.heap.size ≤ wq.heap.size) := Lib.hid fun wq h => h.size
  clear hN hM hz hb
  go_enter Try.func6, Try.ntmps6
  go_wp2_with (first
    | (have hgo := Bw0; clear hgo
       refine wbox_int 3 (.tmp 1) rfl rfl rfl ?_
       intro mb w1 lm r_m kk
       have RM0 := Lib.hid r_m.lt
       have Bw1 := kk
       clear Bw0 kk lm)
    | (refine wpList_loadG 3 (.tmp 4) rfl rfl (.int .i64 (M : Int)) r_m rfl (by omega) rfl (by kernel_rfl) ?_)
    | (have hgo := Bw1; clear hgo
       refine wpList_alloc_W rfl rfl ?_
       intro y1 w2 ly hW1 kk
       have HM1 : Hid (¬ mb = y1) := Lib.hid (by have := r_m.lt; omega)
       replace r_m := zrb r_m kk
       have LY1 := Lib.hid (Nat.le_trans Bw1.size ly)
       have HW1 := Lib.hid hW1
       have Bw2 := zbt HGS Bw1 kk
       clear Bw1 kk ly hW1)
    | (have hgo := Bw2; clear hgo
       refine wpList_alloc_W rfl rfl ?_
       intro y2 w3 ly hW2 kk
       have HM2 : Hid (¬ mb = y2) := Lib.hid (by have := r_m.lt; omega)
       have HYY : Hid (¬ y1 = y2) := Lib.hid (by have := wrAt.lt _ _ _ _ HW1.out y1 rfl; omega)
       replace r_m := zrb r_m kk
       have LY2 := Lib.hid (Nat.le_trans Bw2.size ly)
       have HW1b := Lib.hid (HW1.out.bel kk)
       have HW2 := Lib.hid hW2
       have Bw3 := zbt HGS Bw2 kk
       clear Bw2 kk ly hW2 HW1)
    | (have hgo := Bw3; clear hgo
       go_at_call 21
       refine (block_any _ N HN.out.1).mono ?_
       rintro e w4 ⟨v_k, blk, rfl, f_k, hkl, kk⟩
       have HKL := Lib.hid hkl
       replace r_m := zrb r_m kk
       have HW1c := Lib.hid (HW1b.out.bel kk)
       have HW2b := Lib.hid (HW2.out.bel kk)
       have Bw4 := zbt HGS Bw3 kk
       clear Bw3 kk hkl HW1b HW2)
    | (have hgo := Bw4; clear hgo
       go_at_call 20
       refine (wrBytes_any _ _ y1 [] v_k blk HW1c.out f_k (by have := HKL.out; have := HN.out.1; omega) (by decide)).mono ?_
       rintro e w5 ⟨rfl, O5, hW5, s5, _⟩
       replace r_m := Sam.row r_m s5 HM1.out
       have HW5 := Lib.hid hW5
       have HW2c := Lib.hid (wrAt.stay _ _ _ _ _ _ HW2b.out s5 (fun b hb h => HYY.out (hb.symm.trans h)))
       have Bw5 := Bw4.trans (s5.below (fun b hb => by rw [hb]; exact LY1.out) Bw4.size)
       clear Bw4 s5 hW5 HW1c HW2b f_k)
    | (have hgo := Bw5; clear hgo
       go_at_call 11
       refine (wrDone_own _ _ y1 _ HW5.out (by have := bytL_len blk; have := HKL.out; have := HN.out.1; simp; omega)).mono ?_
       rintro e w6 ⟨v_b, rfl, o_b, kk⟩
       rw [List.nil_append] at o_b
       replace r_m := zrb r_m kk
       have HW2d := Lib.hid (HW2c.out.bel kk)
       have HYB : Hid (y2 < w5.heap.size) := Lib.hid (wrAt.lt _ _ _ _ HW2c.out y2 rfl)
       have Bw6 := zbt HGS Bw5 kk
       have KK6 := Lib.hid kk.size
       clear Bw5 kk HW2c HW5))
  have HOB := Lib.hid o_b
  have HRM := Lib.hid r_m
  go_loopw [10, 11] (fun lv iv wr => ∃ (i : Nat), i ≤ N ∧ iv = .int .i64 (i : Int) ∧ outAt wr w6.heap.size lv (List.replicate i []) ∧ Below w6.heap.size w6 wr) (fun _ iv _ => N - (intOf iv).toNat)
  case atStart => exact ⟨0, Nat.zero_le _, rfl, outAt.nil _ _, Below.refl _ _⟩
  case round =>
    clear r_m o_b
    obtain ⟨i, hi, rfl, o_l, Bx⟩ := hrel
    by_cases hlt : i < N
    · have hiI : (i : Int) < (N : Int) := by omega
      have HI := Lib.hid hlt
      obtain ⟨i1, hi1⟩ := nat_var (i + 1)
      have e5 : IntKind.i64.wrap ((i : Int) + 1) = (i1 : Int) := by rw [IntWalk.i64_in _ (by have := HN.out.1; omega)]; omega
      have HI1 := Lib.hid hi1
      clear hi hlt hi1
      go_wp2_with (first
        | (have hgo := Bx; clear hgo
           refine wrowV1 rfl (.const (.slice none 0 0)) rfl (Bs.nil _) rfl ?_
           intro v_r w7 f_r kk
           replace o_l := o_l.step kk
           have By := Bx.trans (kk.mono Bx.size)
           clear Bx kk)
        | (have hgo := By; clear hgo
           refine wappR (.tmp 40) (.tmp 41) rfl rfl o_l (BsK.nil _ _) f_r rfl rfl (by have := HN.out.1; have := HI.out; rw [List.length_replicate]; omega) By.size ?_
           intro v8 w8 o8 gk
           obtain ⟨xs, hxs⟩ := o_l.own
           have Bz := By.grown gk By.size (fun k hk => (hxs.block k hk).1)
           rw [← List.replicate_succ'] at o8
           clear By gk hxs o_l f_r))
      go_roundw
      case rel => exact ⟨i + 1, HI.out, by rw [HI1.out], o8, Bz⟩
      case measure => (have := HI1.out; have := HI.out; simp [intOf]; try omega)
    · obtain rfl : i = N := by omega
      have hiI : ¬ (i : Int) < (i : Int) := by omega
      have r_m := zrb HRM.out Bx
      have o_b := Owns.belowJ HOB.out Bx
      have HW2e := Lib.hid (HW2d.out.bel Bx)
      have Bw8 := zbt HGS Bw6 Bx
      have HS8 := Lib.hid (Nat.le_trans KK6.out Bx.size)
      have HLL : Hid ((List.replicate i ([] : List UInt8)).flatten.length + (List.replicate i ([] : List UInt8)).length ≤ 300) := Lib.hid (by rw [rep_nil, List.length_replicate]; have := HN.out.1; simp; omega)
      obtain ⟨LB, hLB⟩ : ∃ LB, LB = (bytL blk).length := ⟨_, rfl⟩
      have HLB : Hid (LB = (bytL blk).length ∧ LB ≤ 1000 ∧ i + 1 ≤ LB) := Lib.hid (by
        have q := numL7_len i
        have p := numL7_pos i
        have k := HKL.out
        have h := HN.out.1
        rw [hLB]
        unfold bytL
        rw [k, List.length_append, k]
        omega)
      have CL : Hid ((numL7 (List.replicate i ([] : List UInt8)).length ++ ((List.replicate i ([] : List UInt8)).map bytL).flatten) = numL7 i ++ ((List.replicate i ([] : List UInt8)).map bytL).flatten) := Lib.hid (by rw [List.length_replicate])
      obtain ⟨LC, hLC⟩ : ∃ LC, LC = (numL7 i ++ ((List.replicate i ([] : List UInt8)).map bytL).flatten).length := ⟨_, rfl⟩
      have HLC : Hid (LC = (numL7 i ++ ((List.replicate i ([] : List UInt8)).map bytL).flatten).length ∧ LC ≤ 1000 ∧ i + 1 ≤ LC) := Lib.hid (by
        have q := numL7_len i
        have p := numL7_pos i
        have h := HN.out.1
        rw [hLC, rep_flat, List.length_append, List.length_replicate]
        omega)
      obtain ⟨adb, capb, hvb⟩ : ∃ a c, v_b = .slice a LB c := by
        obtain ⟨a, c, h, _⟩ := o_b.bs
        exact ⟨a, c, by rw [h, hLB]⟩
      subst hvb
      clear hlt hi Bx Bw6 HOB HRM HW2d hLB hLC
      go_wp2_with (first
        | (have hgo := Bw8; clear hgo
           go_at_call 22
           refine (wrList_any _ _ y2 [] _ (List.replicate i []) HW2e.out (BssK.old o_l.bss (Below.refl _ _) fun b h => h) (by have := HLL.out; omega) (by decide)).mono ?_
           rintro e w9 ⟨rfl, O9, hW9, s9, _⟩
           rw [List.nil_append, CL.out] at hW9
           replace r_m := Sam.row r_m s9 HM2.out
           have HW9 := Lib.hid hW9
           have o_b9 := Lib.hid (o_b.sam s9 (fun b hb e => by have := Owns.block o_b b hb; have := HYB.out; omega))
           have Bw9 := Bw8.trans (s9.below (fun b hb => by rw [hb]; exact LY2.out) Bw8.size)
           clear Bw8 s9 hW9 o_l o_b HW2e)
        | (have hgo := Bw9; clear hgo
           go_at_call 11
           refine (wrDone_own _ _ y2 _ HW9.out (by have := HLC.out; omega)).mono ?_
           rintro e w10 ⟨v_c, rfl, o_c, kk⟩
           replace r_m := zrb r_m kk
           have f_b := zfb o_b9.out.bs kk
           have f_c := o_c.bs
           obtain ⟨adc, capc, hvc⟩ : ∃ a c, v_c = .slice a LC c := by
             obtain ⟨a, c, h, _⟩ := o_c.bs
             exact ⟨a, c, by rw [h, HLC.out.1]⟩
           subst hvc
           have Bw10 := zbt HGS Bw9 kk
           clear Bw9 kk HW9 o_b9 o_c)
        | (have hgo := Bw10; clear hgo
           refine wpList_loadG 3 (.tmp 4) rfl rfl (.int .i64 (M : Int)) r_m rfl (by omega) rfl (by kernel_rfl) ?_)
        | (have hgo := Bw10; clear hgo
           go_at_call 12
           refine (rd1 23 _ mb M 0 _ _ _ Try.func23 (by kernel_rfl) (by kernel_rfl) f_b (by have := HLB.out; skip; omega) r_m (.inl ⟨rfl, fun O w1 r hr hm => lim1_ok O w1 r mb M blk hr (by rw [HKL.out]; exact HB.out) (by have := HN.out; omega) hm⟩)).mono ?_
           rintro e w11 ⟨rfl, kk⟩
           replace r_m := zrb r_m kk
           have FC2 := Lib.hid (zfb f_c kk)
           clear f_c f_b
           have Bw11 := zbt HGS Bw10 kk
           clear Bw10 kk)
        | (have hgo := Bw11; clear hgo
           go_at_call 12
           refine (rd1 25 _ mb M 0 _ _ _ Try.func25 (by kernel_rfl) (by kernel_rfl) FC2.out (by have := HLC.out; skip; omega) r_m (.inl ⟨rfl, fun O w1 r hr hm => lim2_ok O w1 r mb M (List.replicate i []) (by rw [List.length_replicate]; exact hr) (by rw [List.length_replicate]; exact HB.out) (by have := HN.out; omega) (fun b hb => by rw [(List.mem_replicate.1 hb).2]; exact Nat.le_refl _) hm⟩)).mono ?_
           rintro e w12 ⟨rfl, kk⟩
           have Bw12 := zbt HGS Bw11 kk
           clear Bw11 kk r_m FC2)
        | (have hgo := Bw12; clear hgo
           go_at_call 8
           refine (awake14_any _).mono ?_
           rintro e w13 ⟨rfl, kk⟩
           have Bw13 := Bw12.trans (kk.mono Bw12.size)
           clear Bw12 kk))
      go_ret
      exact ⟨rfl, Bw13⟩
set_option maxHeartbeats 4000000 in
set_option maxRecDepth 20000 in
theorem limits_k1 (N M : Nat) (w : World) (hN : N ≤ 300) (hM : M ≤ 300) (hz : 1 ≤ N) (hb : N ≤ M) : Calls Try.prog 6 #[.int .i64 (N : Int), .int .i64 (M : Int), .bool true] w fun e w' => e = .returned (.bool true) ∧ Below w.heap.size w w' := by
  have g1 : ¬ (N : Int) < 0 := by omega
  have g2 : ¬ (300 : Int) < (N : Int) := by omega
  have g3 : ¬ (M : Int) < 0 := by omega
  have g4 : ¬ (300 : Int) < (M : Int) := by omega
  have hmf : ∀ (fn : Fn) (first cap : Array Value) (w : World), (Instr.makeFunc fn first cap).run Try.prog w = .ok (.func fn first cap) w := fun _ _ _ _ => rfl
  have g5 : ¬ (N : Int) = 0 := by omega
  have g6 : ¬ (M : Int) < (N : Int) := by omega
  have HN := Lib.hid (And.intro hN (And.intro hM hz))
  have HB := Lib.hid hb
  have Bw0 := Below.refl w.heap.size w
  have HGS : Hid (∀ wq : World, Below w.heap.size w wq → w.heap.size ≤ wq.heap.size) := Lib.hid fun wq h => h.size
  clear hN hM hz hb
  go_enter Try.func6, Try.ntmps6
  go_wp2_with (first
    | (have hgo := Bw0; clear hgo
       refine wbox_int 3 (.tmp 1) rfl rfl rfl ?_
       intro mb w1 lm r_m kk
       have RM0 := Lib.hid r_m.lt
       have Bw1 := kk
       clear Bw0 kk lm)
    | (refine wpList_loadG 3 (.tmp 4) rfl rfl (.int .i64 (M : Int)) r_m rfl (by omega) rfl (by kernel_rfl) ?_)
    | (have hgo := Bw1; clear hgo
       refine wpList_alloc_W rfl rfl ?_
       intro y1 w2 ly hW1 kk
       have HM1 : Hid (¬ mb = y1) := Lib.hid (by have := r_m.lt; omega)
       replace r_m := zrb r_m kk
       have LY1 := Lib.hid (Nat.le_trans Bw1.size ly)
       have HW1 := Lib.hid hW1
       have Bw2 := zbt HGS Bw1 kk
       clear Bw1 kk ly hW1)
    | (have hgo := Bw2; clear hgo
       refine wpList_alloc_W rfl rfl ?_
       intro y2 w3 ly hW2 kk
       have HM2 : Hid (¬ mb = y2) := Lib.hid (by have := r_m.lt; omega)
       have HYY : Hid (¬ y1 = y2) := Lib.hid (by have := wrAt.lt _ _ _ _ HW1.out y1 rfl; omega)
       replace r_m := zrb r_m kk
       have LY2 := Lib.hid (Nat.le_trans Bw2.size ly)
       have HW1b := Lib.hid (HW1.out.bel kk)
       have HW2 := Lib.hid hW2
       have Bw3 := zbt HGS Bw2 kk
       clear Bw2 kk ly hW2 HW1)
    | (have hgo := Bw3; clear hgo
       go_at_call 21
       refine (block_any _ N HN.out.1).mono ?_
       rintro e w4 ⟨v_k, blk, rfl, f_k, hkl, kk⟩
       have HKL := Lib.hid hkl
       replace r_m := zrb r_m kk
       have HW1c := Lib.hid (HW1b.out.bel kk)
       have HW2b := Lib.hid (HW2.out.bel kk)
       have Bw4 := zbt HGS Bw3 kk
       clear Bw3 kk hkl HW1b HW2)
    | (have hgo := Bw4; clear hgo
       go_at_call 20
       refine (wrBytes_any _ _ y1 [] v_k blk HW1c.out f_k (by have := HKL.out; have := HN.out.1; omega) (by decide)).mono ?_
       rintro e w5 ⟨rfl, O5, hW5, s5, _⟩
       replace r_m := Sam.row r_m s5 HM1.out
       have HW5 := Lib.hid hW5
       have HW2c := Lib.hid (wrAt.stay _ _ _ _ _ _ HW2b.out s5 (fun b hb h => HYY.out (hb.symm.trans h)))
       have Bw5 := Bw4.trans (s5.below (fun b hb => by rw [hb]; exact LY1.out) Bw4.size)
       clear Bw4 s5 hW5 HW1c HW2b f_k)
    | (have hgo := Bw5; clear hgo
       go_at_call 11
       refine (wrDone_own _ _ y1 _ HW5.out (by have := bytL_len blk; have := HKL.out; have := HN.out.1; simp; omega)).mono ?_
       rintro e w6 ⟨v_b, rfl, o_b, kk⟩
       rw [List.nil_append] at o_b
       replace r_m := zrb r_m kk
       have HW2d := Lib.hid (HW2c.out.bel kk)
       have HYB : Hid (y2 < w5.heap.size) := Lib.hid (wrAt.lt _ _ _ _ HW2c.out y2 rfl)
       have Bw6 := zbt HGS Bw5 kk
       have KK6 := Lib.hid kk.size
       clear Bw5 kk HW2c HW5))
  have HOB := Lib.hid o_b
  have HRM := Lib.hid r_m
  go_loopw [10, 11] (fun lv iv wr => ∃ (i : Nat), i ≤ N ∧ iv = .int .i64 (i : Int) ∧ outAt wr w6.heap.size lv (List.replicate i []) ∧ Below w6.heap.size w6 wr) (fun _ iv _ => N - (intOf iv).toNat)
  case atStart => exact ⟨0, Nat.zero_le _, rfl, outAt.nil _ _, Below.refl _ _⟩
  case round =>
    clear r_m o_b
    obtain ⟨i, hi, rfl, o_l, Bx⟩ := hrel
    by_cases hlt : i < N
    · have hiI : (i : Int) < (N : Int) := by omega
      have HI := Lib.hid hlt
      obtain ⟨i1, hi1⟩ := nat_var (i + 1)
      have e5 : IntKind.i64.wrap ((i : Int) + 1) = (i1 : Int) := by rw [IntWalk.i64_in _ (by have := HN.out.1; omega)]; omega
      have HI1 := Lib.hid hi1
      clear hi hlt hi1
      go_wp2_with (first
        | (have hgo := Bx; clear hgo
           refine wrowV1 rfl (.const (.slice none 0 0)) rfl (Bs.nil _) rfl ?_
           intro v_r w7 f_r kk
           replace o_l := o_l.step kk
           have By := Bx.trans (kk.mono Bx.size)
           clear Bx kk)
        | (have hgo := By; clear hgo
           refine wappR (.tmp 40) (.tmp 41) rfl rfl o_l (BsK.nil _ _) f_r rfl rfl (by have := HN.out.1; have := HI.out; rw [List.length_replicate]; omega) By.size ?_
           intro v8 w8 o8 gk
           obtain ⟨xs, hxs⟩ := o_l.own
           have Bz := By.grown gk By.size (fun k hk => (hxs.block k hk).1)
           rw [← List.replicate_succ'] at o8
           clear By gk hxs o_l f_r))
      go_roundw
      case rel => exact ⟨i + 1, HI.out, by rw [HI1.out], o8, Bz⟩
      case measure => (have := HI1.out; have := HI.out; simp [intOf]; try omega)
    · obtain rfl : i = N := by omega
      have hiI : ¬ (i : Int) < (i : Int) := by omega
      have r_m := zrb HRM.out Bx
      have o_b := Owns.belowJ HOB.out Bx
      have HW2e := Lib.hid (HW2d.out.bel Bx)
      have Bw8 := zbt HGS Bw6 Bx
      have HS8 := Lib.hid (Nat.le_trans KK6.out Bx.size)
      have HLL : Hid ((List.replicate i ([] : List UInt8)).flatten.length + (List.replicate i ([] : List UInt8)).length ≤ 300) := Lib.hid (by rw [rep_nil, List.length_replicate]; have := HN.out.1; simp; omega)
      obtain ⟨LB, hLB⟩ : ∃ LB, LB = (bytL blk).length := ⟨_, rfl⟩
      have HLB : Hid (LB = (bytL blk).length ∧ LB ≤ 1000 ∧ i + 1 ≤ LB) := Lib.hid (by
        have q := numL7_len i
        have p := numL7_pos i
        have k := HKL.out
        have h := HN.out.1
        rw [hLB]
        unfold bytL
        rw [k, List.length_append, k]
        omega)
      have CL : Hid ((numL7 (List.replicate i ([] : List UInt8)).length ++ ((List.replicate i ([] : List UInt8)).map bytL).flatten) = numL7 i ++ ((List.replicate i ([] : List UInt8)).map bytL).flatten) := Lib.hid (by rw [List.length_replicate])
      obtain ⟨LC, hLC⟩ : ∃ LC, LC = (numL7 i ++ ((List.replicate i ([] : List UInt8)).map bytL).flatten).length := ⟨_, rfl⟩
      have HLC : Hid (LC = (numL7 i ++ ((List.replicate i ([] : List UInt8)).map bytL).flatten).length ∧ LC ≤ 1000 ∧ i + 1 ≤ LC) := Lib.hid (by
        have q := numL7_len i
        have p := numL7_pos i
        have h := HN.out.1
        rw [hLC, rep_flat, List.length_append, List.length_replicate]
        omega)
      have t1 : (1 : Int) < (LB : Int) := by have := HLB.out; have := HN.out.2.2; omega
      have t2 : (1 : Int) < (LC : Int) := by have := HLC.out; have := HN.out.2.2; omega
      obtain ⟨LB1, hLB1⟩ : ∃ k, k + 1 = LB := ⟨LB - 1, by have := HLB.out; omega⟩
      obtain ⟨LC1, hLC1⟩ : ∃ k, k + 1 = LC := ⟨LC - 1, by have := HLC.out; omega⟩
      have t3 : IntKind.i64.wrap ((LB : Int) - 1) = (LB1 : Int) := by rw [IntWalk.i64_in _ (by have := HLB.out; omega)]; omega
      have t4 : IntKind.i64.wrap ((LC : Int) - 1) = (LC1 : Int) := by rw [IntWalk.i64_in _ (by have := HLC.out; omega)]; omega
      have HL1 := Lib.hid (And.intro hLB1 hLC1)
      clear hLB1 hLC1
      obtain ⟨adb, capb, hvb⟩ : ∃ a c, v_b = .slice a LB c := by
        obtain ⟨a, c, h, _⟩ := o_b.bs
        exact ⟨a, c, by rw [h, hLB]⟩
      subst hvb
      clear hlt hi Bx Bw6 HOB HRM HW2d hLB hLC
      go_wp2_with (first
        | (have hgo := Bw8; clear hgo
           go_at_call 22
           refine (wrList_any _ _ y2 [] _ (List.replicate i []) HW2e.out (BssK.old o_l.bss (Below.refl _ _) fun b h => h) (by have := HLL.out; omega) (by decide)).mono ?_
           rintro e w9 ⟨rfl, O9, hW9, s9, _⟩
           rw [List.nil_append, CL.out] at hW9
           replace r_m := Sam.row r_m s9 HM2.out
           have HW9 := Lib.hid hW9
           have o_b9 := Lib.hid (o_b.sam s9 (fun b hb e => by have := Owns.block o_b b hb; have := HYB.out; omega))
           have Bw9 := Bw8.trans (s9.below (fun b hb => by rw [hb]; exact LY2.out) Bw8.size)
           clear Bw8 s9 hW9 o_l o_b HW2e)
        | (have hgo := Bw9; clear hgo
           go_at_call 11
           refine (wrDone_own _ _ y2 _ HW9.out (by have := HLC.out; omega)).mono ?_
           rintro e w10 ⟨v_c, rfl, o_c, kk⟩
           replace r_m := zrb r_m kk
           have f_b := zfb o_b9.out.bs kk
           have f_c := o_c.bs
           obtain ⟨adc, capc, hvc⟩ : ∃ a c, v_c = .slice a LC c := by
             obtain ⟨a, c, h, _⟩ := o_c.bs
             exact ⟨a, c, by rw [h, HLC.out.1]⟩
           subst hvc
           have Bw10 := zbt HGS Bw9 kk
           clear Bw9 kk HW9 o_b9 o_c)
        | (have hgo := Bw10; clear hgo
           refine wpList_loadG 3 (.tmp 4) rfl rfl (.int .i64 (M : Int)) r_m rfl (by omega) rfl (by kernel_rfl) ?_)
        | (have hgo := t3; clear hgo
           refine wpList_bsTo rfl (.tmp 57) (.tmp 60) rfl f_b LB1 rfl rfl rfl (by have := HL1.out; omega) (by have := HLB.out; omega) ?_
           intro f_b2
           have FB := Lib.hid f_b2
           clear t3 f_b f_b2)
        | (have hgo := t4; clear hgo
           refine wpList_bsTo rfl (.tmp 62) (.tmp 65) rfl f_c LC1 rfl rfl rfl (by have := HL1.out; omega) (by have := HLC.out; omega) ?_
           intro f_c2
           have FC := Lib.hid f_c2
           clear t4 f_c f_c2)
        | (have hgo := Bw10; clear hgo
           go_at_call 12
           refine (rd1 23 _ mb M 2 _ _ _ Try.func23 (by kernel_rfl) (by kernel_rfl) FB.out (by have := HLB.out; rw [List.length_take]; omega) r_m (.inr ⟨by decide, fun O w1 r hr hm => by
             obtain ⟨e1, e2⟩ := cut_b blk i LB1 HKL.out (by rw [HL1.out.1]; exact HLB.out.1) HN.out.2.2
             rw [e1] at hr
             exact lim1_short O w1 r mb M i _ hr ⟨by have := HN.out; omega, by have := HN.out; omega, HB.out, e2⟩ hm⟩)).mono ?_
           rintro e w11 ⟨rfl, kk⟩
           replace r_m := zrb r_m kk
           have FC2 := Lib.hid (zfb FC.out kk)
           clear FC FB
           have Bw11 := zbt HGS Bw10 kk
           clear Bw10 kk)
        | (have hgo := Bw11; clear hgo
           go_at_call 12
           refine (rd1 25 _ mb M 2 _ _ _ Try.func25 (by kernel_rfl) (by kernel_rfl) FC2.out (by have := HLC.out; rw [List.length_take]; omega) r_m (.inr ⟨by decide, fun O w1 r hr hm => by
             obtain ⟨K, rfl⟩ : ∃ K, i = K + 1 := ⟨i - 1, by have := HN.out.2.2; omega⟩
             rw [cut_c K LC1 (by rw [HL1.out.2]; exact HLC.out.1)] at hr
             exact lim2_short O w1 r mb M (List.replicate K []) (by rw [List.length_replicate]; exact hr) (by rw [List.length_replicate]; exact HB.out) (by have := HN.out; omega) (fun b hb => by rw [(List.mem_replicate.1 hb).2]; exact Nat.le_refl _) hm⟩)).mono ?_
           rintro e w12 ⟨rfl, kk⟩
           have Bw12 := zbt HGS Bw11 kk
           clear Bw11 kk r_m FC2)
        | (have hgo := Bw12; clear hgo
           go_at_call 8
           refine (awake14_any _).mono ?_
           rintro e w13 ⟨rfl, kk⟩
           have Bw13 := Bw12.trans (kk.mono Bw12.size)
           clear Bw12 kk))
      go_ret
      exact ⟨rfl, Bw13⟩
theorem law_wireLimits (w : World) (n : Int) (_ : (Lit.int .i64 n).wf = true) (m : Int) (_ : (Lit.int .i64 m).wf = true) (short : Bool) : Calls Try.prog 6 #[.int .i64 n, .int .i64 m, .bool short] w fun e w' => e = .returned (.bool true) ∧ Below w.heap.size w w' := by
  by_cases h1 : n < 0
  · exact limits_o1 n m short w h1
  by_cases h2 : 300 < n
  · exact limits_o2 n m short w h1 h2
  by_cases h3 : m < 0
  · exact limits_o3 n m short w h1 h2 h3
  by_cases h4 : 300 < m
  · exact limits_o4 n m short w h1 h2 h3 h4
  obtain ⟨N, rfl⟩ : ∃ k : Nat, n = (k : Int) := ⟨n.toNat, by omega⟩
  obtain ⟨M, rfl⟩ : ∃ k : Nat, m = (k : Int) := ⟨m.toNat, by omega⟩
  by_cases hz : N = 0
  · cases short
    · exact limits_z0 N M w (by omega) (by omega) hz
    · exact limits_z1 N M w (by omega) (by omega) hz
  by_cases hb : M < N
  · cases short
    · exact limits_b0 N M w (by omega) (by omega) (by omega) hb
    · exact limits_b1 N M w (by omega) (by omega) (by omega) hb
  · cases short
    · exact limits_k0 N M w (by omega) (by omega) (by omega) (by omega)
    · exact limits_k1 N M w (by omega) (by omega) (by omega) (by omega)
end Go.Proofs.Ytllppgfajbbbaaa
